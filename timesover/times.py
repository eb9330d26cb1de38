"""Times: tuples of one to four integers from 0 on, and their order."""

from timesover.basics import is_from_nought
from timesover.errors import BadDepth, BadTime, BadTimes


def is_before(one, other):
    """Whether each part of one is at most the same part of other; false if they have unlike depths."""
    check_time(one)
    check_time(other)
    return is_at_most(one, other)


def least_times(times):
    """The times, ascending and each once, that no unlike one of them is at or before."""
    if not are_times(times):
        raise BadTimes(times)
    return least_of(times)


def common_time(one, other):
    """The least time that both are at or before."""
    check_time(one)
    check_time(other)
    if len(one) != len(other):
        raise BadDepth(len(other))
    return later_parts(one, other)


def is_time(value):
    """Whether any value is a time."""
    return isinstance(value, tuple) and 1 <= len(value) <= 4 and all([is_from_nought(part) for part in value])


def are_times(value):
    """Whether any value is a tuple of times of one depth."""
    if not isinstance(value, tuple) or not all([is_time(time) for time in value]):
        return False
    return all([len(time) == len(value[0]) for time in value])


def check_time(value):
    """Raises BadTime unless value is a time."""
    if not is_time(value):
        raise BadTime(value)


def is_at_most(one, other):
    """What is_before returns, of what is known to be times."""
    if len(one) != len(other):
        return False
    for part, far in zip(one, other):
        if part > far:
            return False
    return True


def has_at_most(times, time):
    """Whether one of times is at or before this time."""
    # From the end, as least times are looked for in ascending order, and the last of them is the likeliest one.
    for other in reversed(times):
        if is_at_most(other, time):
            return True
    return False


def least_of(times):
    """What least_times returns, of what is known to be times of one depth."""
    least = []
    # What is at or before a time stands ahead of it in Python's order, too: so what was kept stays kept.
    for time in sorted(set(times)):
        if not has_at_most(least, time):
            least.append(time)
    return tuple(least)


def later_parts(one, other):
    """What common_time returns, of what is known to be times of one depth."""
    return tuple([max(part, far) for part, far in zip(one, other)])


def common_times(one, other):
    """The least times that some time of one is at or before, and some time of other as well."""
    # A time of one that some time of other is at or before stays as it is; what it makes with others is later.
    stays = [time for time in one if has_at_most(other, time)]
    rises = [time for time in one if not has_at_most(other, time)]
    return least_of([*stays, *[later_parts(time, far) for time in rises for far in other]])
