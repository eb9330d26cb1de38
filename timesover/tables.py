"""Tables: the least shifts of all ways from place to place, and what could come where."""

from timesover.errors import TooMany
from timesover.plans import check_place, check_point, depth_of, lines_from
from timesover.shifts import are_shifts, joined_words, keep_least, kept_shift, time_behind
from timesover.times import is_at_most
from timesover.ways import joined_way, way_end

MOST_SHIFTS = 200
MOST_LINES_TOLD = 1000


def shift_table(plan, one, other):
    """The least shifts of all ways from one place to the other."""
    return tuple([shift for shift, way in table_ways(plan, one, other)])


def table_ways(plan, one, other):
    """The shifts of the table from one place to the other, each with a way that has this very shift."""
    check_place(plan, one)
    check_place(plan, other)
    found = least_ways(plan, one)[other]
    if len(found) > MOST_SHIFTS:
        raise TooMany(MOST_SHIFTS)
    return tuple([(shift, found[shift]) for shift in sorted(found)])


def could_come(plan, point, other):
    """A way by which the point could come to the other one, or the table that tells that there is none."""
    check_point(plan, point)
    check_point(plan, other)
    rows = table_ways(plan, point[0], other[0])
    for shift, way in rows:
        if is_at_most(time_behind(shift, point[1]), other[1]):
            return ("way", way)
    return ("barred", tuple([shift for shift, way in rows]))


def shows_could_come(plan, point, other, value):
    """Whether value is what could_come may return."""
    told = could_come(plan, point, other)
    if not isinstance(value, tuple) or len(value) != 2 or value[0] != told[0]:
        return False
    if told[0] == "way":
        return does_way_lead(plan, point, other, value[1])
    # In Python's comparison alone True would be 1, which it is not in a shift.
    return are_shifts(value[1]) and value[1] == told[1]


def does_way_lead(plan, point, other, value):
    """Whether value is a way, not too long to be told, by which the point could come to the other one."""
    if not isinstance(value, tuple) or len(value) > MOST_LINES_TOLD:
        return False
    if way_end(plan, point[0], value) != other[0]:
        return False
    return is_at_most(time_behind(joined_way(plan, point[0], value), point[1]), other[1])


def least_ways(plan, one):
    """For each place a dict of the least shifts of all ways from the place one, each with its way.

    Shorter ways are gone on from first. A way need not be gone on from once a shift is below its own: what
    that one leads on to is below what this one does. And it comes to an end: between the lines that are
    the last ones to set a part, a turn of a ring makes no shift less, so no least shift needs a long way.
    """
    found = {name: {} for name, depth in plan.places}
    begun = [(one, kept_shift(depth_of(plan, one)), ())]
    while begun:
        news = []
        for name, shift, way in begun:
            if keep_least(found[name], shift, way):
                news.append((name, shift, way))
        begun = []
        for name, shift, way in news:
            if shift in found[name]:
                begun.extend(longer_ways(plan, name, shift, way))
    return found


def longer_ways(plan, place, shift, way):
    """The ways that go on from this place with one line more: where each ends, its shift, the way itself."""
    return [(plan.lines[number][1], joined_words(shift, plan.lines[number][2]), (*way, number))
            for number in lines_from(plan, place)]
