"""Glued places: what is safe to say for who counts by the places of another, coarse, plan."""

from timesover.crews import changes_behind, check_deeds
from timesover.errors import BadNames
from timesover.plans import check_works, depth_of
from timesover.shifts import time_behind
from timesover.sound import check_sound
from timesover.sums import summed
from timesover.tables import shift_table


def glued_safe(plan, coarse, names):
    """Whether names are safe; if not, the first line with a time at which the coarse plan does not go along."""
    check_glue(plan, coarse, names)
    glue = glue_of(plan, names)
    for number, line in enumerate(plan.lines):
        time = lost_time(plan, coarse, glue, line)
        if time is not None:
            return ("unsafe", number, time)
    return ("safe",)


def glued_counts(plan, coarse, names, works, deeds):
    """The glued points whose count is not 0 behind these deeds, each with its count."""
    check_glue(plan, coarse, names)
    check_works(plan, works)
    check_deeds(plan, deeds)
    glue = glue_of(plan, names)
    return summed([(glued(glue, point), change) for point, change in changes_behind(works, deeds)])


def glued_script(plan, coarse, names):
    """Works, deeds, which of them are heard, and a glued point that is wrongly over then; None if names are safe."""
    told = glued_safe(plan, coarse, names)
    if told == ("safe",):
        return None
    _, number, time = told
    start, end, shift = plan.lines[number]
    taken, put = (start, time), (end, time_behind(shift, time))
    glue = glue_of(plan, names)
    if glued(glue, taken) != glued(glue, put):
        return ((taken,), ((taken, (put,)),), (), glued(glue, put))
    # The work that was put and then taken strikes out the one of the beginning, and what was put beside it lacks.
    other = (start, (time[0] + 1, *time[1:]))
    return ((taken,), ((taken, tuple(sorted([put, other]))), (put, ())), (1,), glued(glue, other))


def check_glue(plan, coarse, value):
    """Raises NotSound, for the one plan or the other, and BadNames unless each place has a name that suits it."""
    check_sound(plan)
    check_sound(coarse)
    if not isinstance(value, tuple) or len(value) != len(plan):
        raise BadNames(value)
    for (place, depth), name in zip(plan.places, value):
        if name not in coarse or depth_of(coarse, name) != depth:
            raise BadNames(value)


def glue_of(plan, names):
    """A dict of the name for each place of the plan."""
    return {place: name for (place, depth), name in zip(plan.places, names)}


def glued(glue, point):
    """The point with the name for its place."""
    return (glue[point[0]], point[1])


def lost_time(plan, coarse, glue, line):
    """The least time from which the line leads to where the coarse plan does not, or to the same point; or None."""
    start, end, shift = line
    times = [passed_time(depth_of(plan, start), shift, shift_table(coarse, glue[start], glue[end]))]
    if glue[start] == glue[end]:
        times.append(kept_time(shift))
    told = [time for time in times if time is not None]
    return min(told) if told else None


def kept_time(shift):
    """The least time that the shift makes to be itself, of as many parts as it has words; None if there is none."""
    if len([word for word in shift if word[0] == "+" and word[1] > 0]) > 0:
        return None
    return tuple([word[1] for word in shift])


def passed_time(depth, shift, table):
    """The least time of this depth of which no shift of the table makes at most what shift makes; None if none is.

    Where shift adds to a part, 0 is as good as any later number: a later one helps those of the table alone. Where it
    sets a part, those of the table that add there make more than it behind some bound. Each one that makes at most
    what shift makes of noughts has to be passed by: behind one of its bounds at least.
    """
    rows = [part_bounds(depth, known, shift) for known in table if are_numbers_at_most(known, shift)]
    time = []
    for part in range(depth):
        # What has a bound at a later part is passed by there: so this part can be less.
        last = [row[part] for row in rows if all([bound is None for bound in row[part + 1:]])]
        if None in last:
            return None
        time.append(max([bound + 1 for bound in last], default=0))
        rows = [row for row in rows if row[part] is None or row[part] >= time[part]]
    return tuple(time)


def are_numbers_at_most(one, other):
    """Whether each number of a shift is at most that of the other one: so it is what they make of noughts."""
    return all([word[1] <= far[1] for word, far in zip(one, other)])


def part_bounds(depth, known, shift):
    """For each part up to which number of it known makes at most what shift makes; None where there is no end."""
    bounds = [far[1] - word[1] if word[0] == "+" and far[0] == "=" else None for word, far in zip(known, shift)]
    return (bounds + [None] * depth)[:depth]
