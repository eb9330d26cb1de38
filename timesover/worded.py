"""Worded deeds, the scripts in which they are done, and what their hands tell by a rule of telling."""

from timesover.basics import is_integer
from timesover.crews import MOST_PUT
from timesover.errors import BadScript, OtherPlan
from timesover.plans import is_later, is_point, lines_putting
from timesover.sums import summed, sums_of

WORDS = ("now", "apart", "late")


class Play:
    """What a script has led to: works, and for each hand the changes of its deeds, those it holds, its tellings."""

    def __init__(self, crew):
        self.works = sums_of([(point, 1) for hand, point in crew.works])
        self.done = [[] for _ in range(crew.hands)]
        self.held = [[] for _ in range(crew.hands)]
        self.tellings = [[] for _ in range(crew.hands)]


def played(rule, crew, script):
    """The play of a script by a rule; OtherPlan, or BadScript for the first step that cannot be done."""
    if crew.plan != rule.plan:
        raise OtherPlan(crew.plan.text)
    if not isinstance(script, tuple):
        raise BadScript(-1)
    play = Play(crew)
    for number, step in enumerate(script):
        if not can_do(play, rule.plan, step):
            raise BadScript(number)
        if len(step) == 1:
            do_beat(play, step[0])
        else:
            do_deed(play, rule, step)
    return play


def can_do(play, plan, value):
    """Whether any value is a step that can be done now."""
    if not isinstance(value, tuple) or len(value) not in (1, 3):
        return False
    if not is_integer(value[0]) or not 0 <= value[0] < len(play.done):
        return False
    if len(value) == 1:
        return True
    return is_worded_deed(plan, value[1], value[2]) and play.works.get(value[1], 0) > 0


def is_worded_deed(plan, taken, put):
    """Whether any values are what a worded deed takes, and what it puts."""
    if not is_point(plan, taken) or not isinstance(put, tuple) or len(put) > MOST_PUT:
        return False
    return all([is_worded_put(plan, taken, row) for row in put])


def is_worded_put(plan, taken, value):
    """Whether any value is a pair of a point that can be put from taken, and by what it is put."""
    if not isinstance(value, tuple) or len(value) != 2 or not is_point(plan, value[0]):
        return False
    point, by = value
    if by is None:
        return is_later(taken, point)
    return is_integer(by) and by in lines_putting(plan, taken, point)


def do_deed(play, rule, step):
    """Does a worded deed: its changes are told now, or held, each as its word says."""
    hand, taken, put = step
    changes = {word: [] for word in WORDS}
    changes[minus_word(rule, taken[0])].append((taken, -1))
    for point, by in put:
        changes[put_word(rule, taken[0], by)].append((point, 1))
    for word in WORDS:
        play.done[hand].extend(changes[word])
        for point, change in changes[word]:
            play.works[point] = play.works.get(point, 0) + change
    tell(play, hand, changes["now"])
    tell(play, hand, changes["apart"])
    play.held[hand].extend(changes["late"])


def do_beat(play, hand):
    """The hand tells all that it holds."""
    tell(play, hand, play.held[hand])
    play.held[hand] = []


def tell(play, hand, changes):
    """The hand tells these changes, if anything is left of them."""
    telling = summed(changes)
    if len(telling) > 0:
        play.tellings[hand].append(telling)


def minus_word(rule, place):
    """When it is told that a work was taken at this place."""
    return rule.minus[place_number(rule.plan, place)]


def put_word(rule, place, by):
    """When it is told that a work was put by one taken at this place: along a line, or, if by is None, by staying."""
    return rule.stay[place_number(rule.plan, place)] if by is None else rule.plus[by]


def place_number(plan, place):
    """The number of the place in the order of the plan's text."""
    return [name for name, depth in plan.places].index(place)
