"""Plans: places, each with a depth, and lines between them, each with a shift."""

from timesover.basics import is_name, is_numeral
from timesover.errors import BadName, BadNames, BadPlan, BadPoint, BadTime, BadWorks
from timesover.shifts import time_behind
from timesover.times import is_at_most, is_time

MOST_PLACES = 12
MOST_LINES = 24
DEPTHS = ("1", "2", "3", "4")


class Plan:
    """The plan that a text tells."""

    def __init__(self, text):
        if not isinstance(text, str):
            raise BadPlan(0)
        places, lines = plan_rows(text)
        self.text = text
        self.places = places
        self.lines = lines

    def __len__(self):
        return len(self.places)

    def __contains__(self, value):
        return isinstance(value, str) and value in [name for name, depth in self.places]

    def __eq__(self, other):
        return isinstance(other, Plan) and self.text == other.text


def plan_rows(text):
    """The places and the lines that a text tells; BadPlan for the first of its lines that is not as told.

    No text passes without a place, as nothing but a place can stand in its first line.
    """
    depths = {}
    lines = []
    for number, row in enumerate(text.split("\n"), start=1):
        words = row.split(" ")
        if is_place_row(words, depths):
            depths[words[1]] = int(words[2])
        elif len(lines) < MOST_LINES and is_line_row(words, depths):
            lines.append((words[1], words[2], tuple([(word[0], int(word[1:])) for word in words[3:]])))
        else:
            raise BadPlan(number)
    return tuple(depths.items()), tuple(lines)


def is_place_row(words, depths):
    """Whether the words are those of a place that can stand behind these others."""
    if len(words) != 3 or words[0] != "place" or len(depths) == MOST_PLACES:
        return False
    return is_name(words[1]) and words[1] not in depths and words[2] in DEPTHS


def is_line_row(words, depths):
    """Whether the words are those of a line between two of these places."""
    if len(words) < 3 or words[0] != "line" or words[1] not in depths or words[2] not in depths:
        return False
    if len(words) - 3 != depths[words[2]]:
        return False
    return all([is_shift_word(word, part < depths[words[1]]) for part, word in enumerate(words[3:])])


def is_shift_word(word, is_there):
    """Whether it is a word for a part; is_there tells whether the place where the line begins has it, too."""
    return (word[:1] == "=" or (word[:1] == "+" and is_there)) and is_numeral(word[1:])


def depth_of(plan, place):
    """How many parts the times of this place have."""
    check_place(plan, place)
    return dict(plan.places)[place]


def is_point(plan, value):
    """Whether any value is a point of the plan."""
    if not isinstance(value, tuple) or len(value) != 2:
        return False
    return value[0] in plan and is_time(value[1]) and len(value[1]) == depth_of(plan, value[0])


def can_put(plan, point, other):
    """Whether a work at the point can put one at the other point."""
    return len(lines_putting(plan, point, other)) > 0 or is_later(point, other)


def lines_putting(plan, point, other):
    """The numbers of the lines along which a work at the point can put one at the other point."""
    check_point(plan, point)
    check_point(plan, other)
    return tuple([number for number in lines_from(plan, point[0])
                  if does_put(plan.lines[number], point[1], other)])


def lines_from(plan, place):
    """The numbers of the lines that lead from this place."""
    check_place(plan, place)
    return tuple([number for number, line in enumerate(plan.lines) if line[0] == place])


def lines_to(plan, place):
    """The numbers of the lines that lead to this place."""
    check_place(plan, place)
    return tuple([number for number, line in enumerate(plan.lines) if line[1] == place])


def led_places(plan, places):
    """The names of all places that are reached from one of these along none or more lines."""
    if not are_names(plan, places):
        raise BadNames(places)
    reached = {name: True for name in places}
    waiting = list(places)
    while waiting:
        name = waiting.pop()
        for number in lines_from(plan, name):
            end = plan.lines[number][1]
            if end not in reached:
                reached[end] = True
                waiting.append(end)
    return tuple(sorted(reached))


def check_place(plan, value):
    """Raises BadName unless value is the name of a place of the plan."""
    if value not in plan:
        raise BadName(value)


def check_point(plan, value):
    """Raises BadPoint unless value is a point of the plan."""
    if not is_point(plan, value):
        raise BadPoint(value)


def check_time_at(plan, place, value):
    """Raises BadTime unless value is a time of this place, which is known to be one of the plan."""
    if not is_point(plan, (place, value)):
        raise BadTime(value)


def are_works(plan, value):
    """Whether any value is an ascending tuple of points of the plan, in which points may stand several times."""
    if not isinstance(value, tuple) or not all([is_point(plan, point) for point in value]):
        return False
    return list(value) == sorted(value)


def check_works(plan, value):
    """Raises BadWorks unless value is an ascending tuple of points of the plan."""
    if not are_works(plan, value):
        raise BadWorks(value)


def is_later(point, other):
    """Whether the other point is at the same place at a later time."""
    return point[0] == other[0] and point[1] != other[1] and is_at_most(point[1], other[1])


def are_names(plan, value):
    """Whether any value is an ascending tuple of names of places of the plan."""
    if not isinstance(value, tuple) or not all([name in plan for name in value]):
        return False
    return list(value) == sorted(set(value))


def does_put(line, time, other):
    """Whether a work at this time, at the place where the line begins, can put one at the other point along it."""
    return line[1] == other[0] and is_at_most(time_behind(line[2], time), other[1])
