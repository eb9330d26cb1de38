"""Sums: numbers that stand with the same point, or the same time, are added up."""


def sums_of(rows):
    """A dict with the sum of all numbers that stand with each key, of pairs of a key and a number."""
    sums = {}
    for key, number in rows:
        sums[key] = sums.get(key, 0) + number
    return sums


def all_sums(rows):
    """The ascending tuple of (key, sum), sums that are 0 as well."""
    return tuple(sorted(sums_of(rows).items()))


def summed(rows):
    """The ascending tuple of (key, sum) for all keys whose sum is not 0."""
    return tuple([row for row in all_sums(rows) if row[1] != 0])
