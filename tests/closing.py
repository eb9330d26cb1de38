"""Tables that a test closes itself: lines are gone along again and again, until nothing less comes of it."""

import itertools

from timesover.plans import Plan
from timesover.shifts import is_below, joined_shift, kept_shift


def closed_tables(plan):
    """For each two places the table from the one to the other."""
    tables = {}
    for start, depth in plan.places:
        found = {name: {kept_shift(depth)} if name == start else set() for name, _ in plan.places}
        while True:
            more = {name: set(shifts) for name, shifts in found.items()}
            for begin, end, shift in plan.lines:
                more[end] |= {joined_shift(known, shift) for known in found[begin]}
            least = {name: without_greater(shifts) for name, shifts in more.items()}
            if least == found:
                break
            found = least
        tables.update({(start, name): tuple(sorted(found[name])) for name, _ in plan.places})
    return tables


def without_greater(shifts):
    """Those of the shifts that no other one is below."""
    return {shift for shift in shifts if not [far for far in shifts if far != shift and is_below(far, shift)]}


def plan_of(places, lines):
    """The plan with these places and lines."""
    rows = [f"place {name} {depth}" for name, depth in places]
    return Plan("\n".join(rows + [line_text(line) for line in lines]))


def line_text(line):
    """The line of a plan's text for this line of a plan."""
    start, end, shift = line
    return f"line {start} {end} " + " ".join(sign + str(number) for sign, number in shift)


def small_plans():
    """All plans of two places of depth 1 with two lines at most, from a to b or from b to b, with small numbers."""
    words = [(sign, number) for sign in "+=" for number in (0, 1, 2)]
    lines = [(start, "b", (word,)) for start in "ab" for word in words]
    rows = [()] + [(line,) for line in lines] + list(itertools.combinations_with_replacement(lines, 2))
    return [plan_of((("a", 1), ("b", 1)), row) for row in rows]
