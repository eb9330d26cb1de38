"""Alike plans: whether two plans tell the same, seen from doors alone."""

from timesover.doors import check_doors, door_tables
from timesover.plans import depth_of
from timesover.shifts import are_words_below, parting_time, time_behind


def tells_alike(one, other, doors_in, doors_out):
    """Whether the same times could come at doors_out from works at doors_in in both plans; if not, what parts them."""
    check_doors((one, other), doors_in)
    check_doors((one, other), doors_out)
    tables, far_tables = door_tables(one, doors_in, doors_out), door_tables(other, doors_in, doors_out)
    for door in doors_in:
        for far in doors_out:
            if tables[door, far] != far_tables[door, far]:
                return told_parts(depth_of(one, door), (door, far), tables[door, far], far_tables[door, far])
    return ("alike",)


def told_parts(depth, doors, table, far_table):
    """What tells_alike returns of the first doors with unlike tables; the first door has this depth."""
    word = "one"
    shift = first_parting(table, far_table)
    if shift is None:
        word = "other"
        shift = first_parting(far_table, table)
    time = parting_time(depth, shift, far_table if word == "one" else table)
    return ("parts", doors[0], time, doors[1], time_behind(shift, time), word)


def first_parting(table, others):
    """The first shift of the table that none of the others is below; None if there is none."""
    for shift in table:
        if len([other for other in others if are_words_below(other, shift)]) == 0:
            return shift
    return None
