"""Shifts: what a line, or a way of lines, makes of a time."""

from timesover.basics import is_from_nought, is_integer
from timesover.errors import BadDepth, BadNumber, BadShift, BadShifts, Below
from timesover.times import check_time

SIGNS = ("+", "=")


def kept_shift(depth):
    """The shift that keeps each part of a time of this depth."""
    check_depth(depth)
    return (("+", 0),) * depth


def does_lead(shift, depth):
    """Whether the shift leads from this depth: it keeps or raises no part that is not there."""
    check_shift(shift)
    check_depth(depth)
    return leads_from(shift, depth)


def shifted(shift, time):
    """The time that the shift makes of this one."""
    check_shift(shift)
    check_time(time)
    if not leads_from(shift, len(time)):
        raise BadDepth(len(time))
    return time_behind(shift, time)


def joined_shift(one, other):
    """The shift that makes of each time what other makes of what one makes of it."""
    check_shift(one)
    check_shift(other)
    if not leads_from(other, len(one)):
        raise BadDepth(len(one))
    return joined_words(one, other)


def is_below(one, other):
    """Whether what one makes of a time is never later than what other makes of it."""
    check_shift(one)
    check_shift(other)
    return len(one) == len(other) and are_words_below(one, other)


def least_shifts(shifts):
    """The shifts, ascending and each once, that no unlike one of them is below."""
    if not are_shifts(shifts) or not all([len(shift) == len(shifts[0]) for shift in shifts]):
        raise BadShifts(shifts)
    least = {}
    for shift in shifts:
        keep_least(least, shift, True)
    return tuple(sorted(least))


def parting_time(depth, shift, others):
    """A time of this depth of which none of others makes what is at or before what shift makes of it."""
    check_depth(depth)
    check_shift(shift)
    if not leads_from(shift, depth):
        raise BadShift(shift)
    if not are_shifts(others) or not all([leads_from(other, depth) for other in others]):
        raise BadShifts(others)
    if not all([len(other) == len(shift) for other in others]):
        raise BadShifts(others)
    for other in others:
        if are_words_below(other, shift):
            raise Below(other)
    late = 1 + max([number for words in (shift, *others) for sign, number in words])
    return tuple([late if part < len(shift) and shift[part][0] == "=" else 0 for part in range(depth)])


def is_depth(value):
    """Whether any value is the depth of a time."""
    return is_integer(value) and 1 <= value <= 4


def is_word(value):
    """Whether any value is a word of a shift."""
    return isinstance(value, tuple) and len(value) == 2 and value[0] in SIGNS and is_from_nought(value[1])


def is_shift(value):
    """Whether any value is a shift."""
    return isinstance(value, tuple) and 1 <= len(value) <= 4 and all([is_word(word) for word in value])


def are_shifts(value):
    """Whether any value is a tuple of shifts, of whatever length."""
    return isinstance(value, tuple) and all([is_shift(shift) for shift in value])


def check_depth(value):
    """Raises BadNumber unless value is the depth of a time."""
    if not is_depth(value):
        raise BadNumber(value)


def check_shift(value):
    """Raises BadShift unless value is a shift."""
    if not is_shift(value):
        raise BadShift(value)


def leads_from(shift, depth):
    """What does_lead returns, of what is known to be a shift and a depth."""
    return all([word[0] == "=" for word in shift[depth:]])


def time_behind(shift, time):
    """What shifted returns, of a shift that is known to lead from the time."""
    return tuple([time[part] + word[1] if word[0] == "+" else word[1] for part, word in enumerate(shift)])


def joined_words(one, other):
    """What joined_shift returns, of shifts that are known to follow each other."""
    return tuple([raised_word(one[part], word[1]) if word[0] == "+" else word for part, word in enumerate(other)])


def raised_word(word, more):
    """The word with so much more in the place of its number."""
    return (word[0], word[1] + more)


def are_words_below(one, other):
    """What is_below returns, of shifts that are known to have as many words each."""
    for word, far in zip(one, other):
        if word[1] > far[1] or (word[0] == "+" and far[0] == "="):
            return False
    return True


def keep_least(least, shift, worth):
    """Puts the shift with its worth into a dict of least ones, unless one of them is below it.

    Returns whether it did. Those that the shift is below are taken out.
    """
    for known in least:
        if are_words_below(known, shift):
            return False
    for known in list(least):
        if are_words_below(shift, known):
            del least[known]
    least[shift] = worth
    return True
