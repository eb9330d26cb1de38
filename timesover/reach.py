"""Reach: what can come from points, by tables that have been worked out once for many asks."""

from timesover.errors import TooMany
from timesover.shifts import time_behind
from timesover.tables import MOST_SHIFTS, least_ways
from timesover.times import is_at_most, least_of


def tables_from(plan, places):
    """For each of these places a dict of the tables to all places; TooMany if one of them is too large.

    A table is a dict here: its shifts, each with a way that has this very shift.
    """
    tables = {}
    for place in places:
        if place not in tables:
            tables[place] = least_ways(plan, place)
            for table in tables[place].values():
                if len(table) > MOST_SHIFTS:
                    raise TooMany(MOST_SHIFTS)
    return tables


def places_of(points):
    """The places of the points."""
    return [place for place, time in points]


def front_by(tables, points, place):
    """The least times at this place to which one of the points could come."""
    return least_of([time_behind(shift, time) for start, time in points for shift in tables[start][place]])


def does_come(tables, point, other):
    """Whether the point could come to the other one."""
    for shift in tables[point[0]][other[0]]:
        if is_at_most(time_behind(shift, point[1]), other[1]):
            return True
    return False


def does_one_come(tables, points, other):
    """Whether one of the points could come to the other one."""
    for point in points:
        if does_come(tables, point, other):
            return True
    return False
