"""Doors: the places of a plan that matter, and what is seen from one to the other."""

from timesover.errors import BadDoors, TooMany
from timesover.plans import depth_of
from timesover.tables import MOST_SHIFTS, least_ways


def check_doors(plans, value):
    """Raises BadDoors unless value are doors of each of these plans, of the same depth in all of them."""
    if not isinstance(value, tuple) or len(value) == 0 or not all([are_places(plan, value) for plan in plans]):
        raise BadDoors(value)
    if len(set(value)) != len(value) or not all([door_depths(plan, value) == door_depths(plans[0], value)
                                                 for plan in plans]):
        raise BadDoors(value)


def are_places(plan, names):
    """Whether all of these values are names of places of the plan."""
    return all([name in plan for name in names])


def door_depths(plan, doors):
    """The depths of the doors, in their order."""
    return [depth_of(plan, door) for door in doors]


def door_tables(plan, doors_in, doors_out):
    """A dict of the tables from each of doors_in to each of doors_out; TooMany if one of these is too large."""
    tables = {}
    for door in doors_in:
        found = least_ways(plan, door)
        for far in doors_out:
            if len(found[far]) > MOST_SHIFTS:
                raise TooMany(MOST_SHIFTS)
            tables[door, far] = tuple(sorted(found[far]))
    return tables
