"""What several tests need: strict comparison, wrong values of any kind, plans at random, all ways."""

import copy
import itertools
import unittest

from timesover.errors import OverError
from timesover.plans import Plan


def nested(depth):
    """A tuple in a tuple in a tuple."""
    value = ()
    for _ in range(depth):
        value = (value,)
    return value


# None of these is a time, a shift, a point, a way from a place, a trace, a tuple of times or of shifts ..
NEVER = (
    None, True, False, 0, 1, 2, 5, -1, 10 ** 39, "", "a", "zz", "+", "kept", "0", [], {}, {"a": 1}, [0], [1, 2],
    [("+", 0)], {0: 1}, (None,), (True,), (False,), (-1,), ("",), ("zz",), ([],), ({},), ((None,),), (("zz", 0),),
    nested(2), nested(59), Plan("place q 1"), (Plan("place q 1"),), [Plan("place q 1")],
)


def is_alike(one, other):
    """Equality in which True is not 1 and a list is no tuple, nested as well."""
    if type(one) is not type(other):
        return False
    if isinstance(one, (tuple, list)):
        return len(one) == len(other) and all(is_alike(a, b) for a, b in zip(one, other))
    if isinstance(one, dict):
        return is_alike(list(one.items()), list(other.items()))
    return one == other


class Case(unittest.TestCase):
    """A test case with strict comparison."""

    def alike(self, told, wanted):
        self.assertTrue(is_alike(told, wanted), f"{told!r} is not {wanted!r}")

    def refuses(self, error, value, function, *arguments, **named):
        """The call raises this very error, with this very value, and leaves its arguments as they are."""
        before = copy.deepcopy((arguments, named))
        with self.assertRaises(OverError) as caught:
            function(*arguments, **named)
        self.assertIs(type(caught.exception), error)
        self.alike(caught.exception.value, value)
        self.assertTrue(is_alike(before, (arguments, named)))


def all_times(depth, below):
    """All times of this depth whose parts are below the number."""
    return list(itertools.product(range(below), repeat=depth))


def all_shifts(words, numbers):
    """All shifts with so many words and these numbers."""
    return list(itertools.product([(sign, number) for sign in "+=" for number in numbers], repeat=words))


def all_ways(plan, place, most):
    """All ways from this place of at most so many lines, with the places where they end."""
    rows = begun = [((), place)]
    for _ in range(most):
        begun = [(way + (number,), line[1]) for way, end in begun
                 for number, line in enumerate(plan.lines) if line[0] == end]
        rows = rows + begun
    return rows


def random_plan(rng, most_places=3, most_depth=2, most_lines=4, numbers=(0, 0, 1, 2)):
    """A small plan at random; several lines between two places, and rings, are likely in it."""
    depths = [rng.randint(1, most_depth) for _ in range(rng.randint(1, most_places))]
    rows = [f"place {'abcdef'[at]} {depth}" for at, depth in enumerate(depths)]
    for _ in range(rng.randint(0, most_lines)):
        start, end = rng.randrange(len(depths)), rng.randrange(len(depths))
        signs = [rng.choice("++=") if part < depths[start] else "=" for part in range(depths[end])]
        words = " ".join(sign + str(rng.choice(numbers)) for sign in signs)
        rows.append(f"line {'abcdef'[start]} {'abcdef'[end]} {words}")
    return Plan("\n".join(rows))


def enough_lines(plan):
    """So many lines that each least shift, and each trace, of a plan of depth two at most has a way of so many.

    What counts of a way are at most two of its lines, one for each part; between them no place stands twice.
    """
    return 3 * (len(plan) - 1) + 3
