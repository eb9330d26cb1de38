"""Straight plans: lines that can be left out, and plans of doors alone."""

from timesover.doors import check_doors, door_tables
from timesover.errors import TooMany
from timesover.plans import MOST_LINES, Plan, depth_of
from timesover.shifts import are_words_below, kept_shift
from timesover.tables import shift_table


def needless_lines(plan):
    """The numbers of the lines that could each, alone, be left out of the plan without a change of any table."""
    return tuple([number for number, line in enumerate(plan.lines) if is_needless(plan_without(plan, number), line)])


def thinned_plan(plan):
    """The plan without the lines that are needless in what is left of it when they are looked at, in their order."""
    left = plan
    number = 0
    for line in plan.lines:
        rest = plan_without(left, number)
        if is_needless(rest, line):
            left = rest
        else:
            number += 1
    return left


def straight_plan(plan, doors):
    """The plan of the doors alone that tells at them what this one tells, without needless lines."""
    check_doors((plan,), doors)
    tables = door_tables(plan, doors, doors)
    rows = []
    for door in doors:
        for far in doors:
            shifts = [shift for shift in tables[door, far] if door != far or shift != kept_shift(depth_of(plan, door))]
            rows.extend([line_row(door, far, shift) for shift in shifts])
    if len(rows) > MOST_LINES:
        raise TooMany(MOST_LINES)
    places = ["place " + door + " " + str(depth_of(plan, door)) for door in doors]
    return thinned_plan(Plan("\n".join(places + rows)))


def is_needless(rest, line):
    """Whether some way in what is left of a plan without this line has a shift below that of the line."""
    start, end, shift = line
    return len([known for known in shift_table(rest, start, end) if are_words_below(known, shift)]) > 0


def plan_without(plan, number):
    """The plan without the line of this number."""
    rows = plan.text.split("\n")
    lines = [at for at, row in enumerate(rows) if row.startswith("line ")]
    del rows[lines[number]]
    return Plan("\n".join(rows))


def line_row(start, end, shift):
    """The line of a plan's text from one place to the other with this shift."""
    return " ".join(["line", start, end, *[sign + str(number) for sign, number in shift]])
