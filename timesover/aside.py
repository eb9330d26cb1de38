"""Own works aside: what can still come by counts, and what of it from others."""

from timesover.basics import is_integer
from timesover.errors import BadCounts
from timesover.plans import check_place, check_works, is_point
from timesover.reach import front_by, places_of
from timesover.sound import check_sound
from timesover.sums import summed
from timesover.tables import shift_table


def counts_front(plan, counts, place):
    """The least times at this place to which a point with a count above 0 could come."""
    check_sound(plan)
    check_counts(plan, counts)
    check_place(plan, place)
    return front_of_counts(plan, counts, place)


def aside_front(plan, counts, works, place):
    """The same, for the counts less 1 at the point of each of these works."""
    check_sound(plan)
    check_counts(plan, counts)
    check_works(plan, works)
    check_place(plan, place)
    return front_of_counts(plan, summed((*counts, *[(point, -1) for point in works])), place)


def check_counts(plan, value):
    """Raises BadCounts unless value is an ascending tuple of points, each once, with integers other than 0."""
    if not isinstance(value, tuple) or not all([is_count(plan, row) for row in value]):
        raise BadCounts(value)
    points = [point for point, count in value]
    if points != sorted(set(points)):
        raise BadCounts(value)


def is_count(plan, value):
    """Whether any value is a pair of a point of the plan and an integer other than 0."""
    if not isinstance(value, tuple) or len(value) != 2:
        return False
    return is_point(plan, value[0]) and is_integer(value[1]) and value[1] != 0


def front_of_counts(plan, counts, place):
    """What counts_front returns, of what is known to be counts and a place; it raises TooMany."""
    points = [point for point, count in counts if count > 0]
    tables = {start: {place: shift_table(plan, start, place)} for start in sorted(set(places_of(points)))}
    return front_by(tables, points, place)
