"""Fronts: the least times that works can still bring to a place."""

from timesover.basics import is_integer
from timesover.errors import BadPoint
from timesover.plans import check_place, check_time_at, check_works, depth_of, is_point
from timesover.reach import does_come, does_one_come, front_by, places_of, tables_from
from timesover.shifts import time_behind
from timesover.tables import MOST_LINES_TOLD
from timesover.times import common_times, is_time
from timesover.ways import joined_way, way_end

SAME = ("same",)
PARTS = "parts"


def front_of(plan, works, place):
    """The front of this place: the least times that one of works could bring there."""
    check_works(plan, works)
    check_place(plan, place)
    return front_by(tables_from(plan, places_of(works)), works, place)


def fronts_of(plan, works):
    """The fronts of all places, in the order of the plan's text."""
    check_works(plan, works)
    tables = tables_from(plan, places_of(works))
    return tuple([front_by(tables, works, place) for place, depth in plan.places])


def is_over(plan, works, place, time):
    """Whether none of works could come to this place at this time."""
    check_works(plan, works)
    check_place(plan, place)
    check_time_at(plan, place, time)
    return not does_one_come(tables_from(plan, places_of(works)), works, (place, time))


def holders_of(plan, works, place, time):
    """Those of works that could come to this place at this time."""
    check_works(plan, works)
    check_place(plan, place)
    check_time_at(plan, place, time)
    tables = tables_from(plan, places_of(works))
    return tuple([work for work in works if does_come(tables, work, (place, time))])


def front_reasons(plan, works, place):
    """Each time of the front with one of works, and a way that makes just this time of that of the work."""
    check_works(plan, works)
    check_place(plan, place)
    tables = tables_from(plan, places_of(works))
    reasons = {}
    for work in works:
        for shift, way in tables[work[0]][place].items():
            time = time_behind(shift, work[1])
            reasons[time] = (time, work, way)
    return tuple([reasons[time] for time in front_by(tables, works, place)])


def shows_front_reasons(plan, works, place, value):
    """Whether any value is what front_reasons may return."""
    front = front_of(plan, works, place)
    if not isinstance(value, tuple) or len(value) != len(front):
        return False
    return all([is_reason(plan, works, (place, time), row) for time, row in zip(front, value)])


def common_front(plan, works, place):
    """The least times at this place to which each of works could come."""
    check_works(plan, works)
    check_place(plan, place)
    tables = tables_from(plan, places_of(works))
    times = ((0,) * depth_of(plan, place),)
    for work in works:
        times = common_times(times, front_by(tables, (work,), place))
    return times


def fronts_without(plan, works, work):
    """The places whose fronts are others without this work, each with its front with the work and without it."""
    check_works(plan, works)
    if not is_point(plan, work) or work not in works:
        raise BadPoint(work)
    tables = tables_from(plan, places_of(works))
    at = works.index(work)
    rest = works[:at] + works[at + 1:]
    rows = [(place, front_by(tables, works, place), front_by(tables, rest, place)) for place, depth in plan.places]
    return tuple([row for row in rows if row[1] != row[2]])


def least_works(plan, works):
    """The points of works, each once, to which only such works could come as they could come to themselves."""
    check_works(plan, works)
    tables = tables_from(plan, places_of(works))
    points = sorted(set(works))
    return tuple([point for point in points if is_least_work(tables, points, point)])


def same_fronts(plan, one, other):
    """Whether the fronts of all places are the same for both; if not, a work to which none of the others comes."""
    return told_parting(parting_works(plan, one, other))


def shows_same_fronts(plan, one, other, value):
    """Whether any value is what same_fronts may return."""
    parting = parting_works(plan, one, other)
    told = told_parting(parting)
    if told == SAME or not isinstance(value, tuple) or len(value) != 3:
        return value == told
    word, number, work = value
    if word != PARTS or not is_integer(number) or number != told[1]:
        return False
    return is_point(plan, work) and work in parting[number]


def is_reason(plan, works, point, value):
    """Whether value is the point's time, with one of works and a way that makes just this time of that of the work."""
    if not isinstance(value, tuple) or len(value) != 3:
        return False
    time, work, way = value
    if not is_time(time) or time != point[1] or not is_point(plan, work) or work not in works:
        return False
    if way_end(plan, work[0], way) != point[0] or len(way) > MOST_LINES_TOLD:
        return False
    return time_behind(joined_way(plan, work[0], way), work[1]) == time


def is_least_work(tables, points, point):
    """Whether only such points could come to this one as it could come to itself."""
    return all([does_come(tables, point, other) for other in points if does_come(tables, other, point)])


def parting_works(plan, one, other):
    """The works of one to which no work of other could come, and the works of other to which none of one could."""
    check_works(plan, one)
    check_works(plan, other)
    tables = tables_from(plan, places_of((*one, *other)))
    return ([work for work in one if not does_one_come(tables, other, work)],
            [work for work in other if not does_one_come(tables, one, work)])


def told_parting(parting):
    """What same_fronts returns, of what parting_works returns."""
    for number, works in enumerate(parting):
        if len(works) > 0:
            return (PARTS, number, works[0])
    return SAME
