"""Ways: lines that follow each other, and what they make of times together."""

from timesover.basics import is_integer
from timesover.errors import BadWay
from timesover.plans import check_place, check_point, depth_of
from timesover.shifts import joined_words, kept_shift, time_behind


def way_shift(plan, place, way):
    """The shift of the way: that of its lines, joined in their sequence."""
    check_place(plan, place)
    check_way(plan, place, way)
    return joined_way(plan, place, way)


def way_points(plan, point, way):
    """The points along the way: the point itself, then one for each line."""
    check_point(plan, point)
    check_way(plan, point[0], way)
    points = [point]
    for number in way:
        _, end, shift = plan.lines[number]
        points.append((end, time_behind(shift, points[-1][1])))
    return tuple(points)


def way_end(plan, place, way):
    """The place to which any value leads as a way from this place; None if it is no way from there."""
    if not isinstance(way, tuple):
        return None
    here = place
    for number in way:
        if not is_integer(number) or not 0 <= number < len(plan.lines) or plan.lines[number][0] != here:
            return None
        here = plan.lines[number][1]
    return here


def check_way(plan, place, value):
    """Raises BadWay unless value is a way from this place."""
    if way_end(plan, place, value) is None:
        raise BadWay(value)


def joined_way(plan, place, way):
    """What way_shift returns, of what is known to be a way from this place."""
    shift = kept_shift(depth_of(plan, place))
    for number in way:
        shift = joined_words(shift, plan.lines[number][2])
    return shift
