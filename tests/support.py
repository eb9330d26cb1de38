"""What several tests need: strict comparison, wrong values of any kind, plans by a rule, all ways."""

import copy
import itertools
import unittest

from timesover.errors import OverError
from timesover.plans import Plan, can_put
from timesover.shifts import shifted
from timesover.sound import soundness


def nested(depth):
    """A tuple in a tuple in a tuple."""
    value = ()
    for _ in range(depth):
        value = (value,)
    return value


# None of these is a time, a shift, a point, a way from a place, a trace, a tuple of times or of shifts ..
NEVER = (
    None, True, False, 0, 1, 2, 5, -1, 10 ** 39, "", "a", "zz", "+", "kept", "0", [], {}, {"a": 1}, [0], [1, 2],
    [("+", 0)], {0: 1}, (None,), (True,), (False,), (-1,), ("",), ("zz",), ([],), ({},), ((None,),), (("zz", 0),),
    nested(2), nested(59), Plan("place q 1"), (Plan("place q 1"),), [Plan("place q 1")],
)

# Of a plan with the places a and c of depth 1 and b of depth 2, and no other ones.
NO_NAMES = tuple(value for value in NEVER if value != "a") + ("A", "d", "a ", " a", "ab", ("a",), ["a"], "a\n")
NO_POINTS = NEVER + (
    (), ("a",), ("a", (0,), 0), ("a", (0, 0)), ("b", (0,)), ("d", (0,)), ("a", 0), ("a", [0]), ["a", (0,)],
    ("a", (True,)), ("a", (-1,)), ("a", ()), ("a", None), ((0,), "a"), (("a",), (0,)), (["a"], (0,)), (1, (0,)),
    (True, (0,)), (None, (0,)), ("", (0,)), ("a", ("0",)), ("a", ((0,),)), ("a", (0,) * 5), (Plan("place a 1"), (0,)),
    {"a": (0,)},
)
NO_WORKS = NEVER + (
    ("a", (0,)), [("a", (0,))], (("b", (0, 0)), ("a", (0,))), (("a", (1,)), ("a", (0,))), (("a", (True,)),),
    (("a", (0,)), None), (None, ("a", (0,))), (["a", (0,)],), (("a", [0]),), (("a", (0, 0)),), (("d", (0,)),),
    (("a", (-1,)),), {("a", (0,)): 1}, (("a", (0,), 0),), ((("a", (0,)),),), (("a", (2,)), ("a", (10,)), ("a", (9,))),
    (("a", (0,)), ("a", (0,)), 0), (("a", (0,)), ("a", (False,))),
)
NO_TIMES_AT_B = NEVER + (
    (), (0,), (0, 0, 0), [0, 0], (True, 0), (0, False), (-1, 0), (0, -1), ("0", 0), ((0,), 0), (0, None), (0, [0]),
    ("b", (0, 0)), ((0, 0),), {0: 0, 1: 0},
)


def is_alike(one, other):
    """Equality in which True is not 1 and a list is no tuple, nested as well."""
    if type(one) is not type(other):
        return False
    if isinstance(one, (tuple, list)):
        return len(one) == len(other) and all(is_alike(a, b) for a, b in zip(one, other))
    if isinstance(one, dict):
        return is_alike(list(one.items()), list(other.items()))
    return one == other


class Case(unittest.TestCase):
    """A test case with strict comparison."""

    def alike(self, told, wanted):
        self.assertTrue(is_alike(told, wanted), f"{told!r} is not {wanted!r}")

    def refuses(self, error, value, function, *arguments, **named):
        """The call raises this very error, with this very value, and leaves its arguments as they are."""
        before = copy.deepcopy((arguments, named))
        with self.assertRaises(OverError) as caught:
            function(*arguments, **named)
        self.assertIs(type(caught.exception), error)
        self.alike(caught.exception.value, value)
        self.assertTrue(is_alike(before, (arguments, named)))

    def refuses_in_order(self, function, rights, wrongs):
        """Each wrong argument is refused, and of two of them the one that stands first among wrongs.

        A row of wrongs: the number of the argument, the error, the wrong value, the value that the error keeps.
        """
        for at, (place, error, value, kept) in enumerate(wrongs):
            arguments = list(rights)
            arguments[place] = value
            self.refuses(error, kept, function, *arguments)
            for other, _, far, _ in wrongs[at + 1:]:
                if other != place:
                    self.refuses(error, kept, function, *arguments[:other], far, *arguments[other + 1:])


class Picks:
    """Picks that only look as if they were at random: each follows, by this rule, from the ones ahead of it."""

    def __init__(self, seed):
        self.state = seed

    def randrange(self, many):
        self.state = (self.state * 6364136223846793005 + 1442695040888963407) % 2 ** 64
        return (self.state >> 33) % many

    def randint(self, low, high):
        return low + self.randrange(high - low + 1)

    def choice(self, rows):
        return rows[self.randrange(len(rows))]


def all_times(depth, below):
    """All times of this depth whose parts are below the number."""
    return list(itertools.product(range(below), repeat=depth))


def all_shifts(words, numbers):
    """All shifts with so many words and these numbers."""
    return list(itertools.product([(sign, number) for sign in "+=" for number in numbers], repeat=words))


def all_ways(plan, place, most):
    """All ways from this place of at most so many lines, with the places where they end."""
    rows = begun = [((), place)]
    for _ in range(most):
        begun = [(way + (number,), line[1]) for way, end in begun
                 for number, line in enumerate(plan.lines) if line[0] == end]
        rows = rows + begun
    return rows


def random_plan(rng, most_places=3, most_depth=2, most_lines=4, numbers=(0, 0, 1, 2)):
    """A small plan at random; several lines between two places, and rings, are likely in it."""
    depths = [rng.randint(1, most_depth) for _ in range(rng.randint(1, most_places))]
    rows = [f"place {'abcdef'[at]} {depth}" for at, depth in enumerate(depths)]
    for _ in range(rng.randint(0, most_lines)):
        start, end = rng.randrange(len(depths)), rng.randrange(len(depths))
        signs = [rng.choice("++=") if part < depths[start] else "=" for part in range(depths[end])]
        words = " ".join(sign + str(rng.choice(numbers)) for sign in signs)
        rows.append(f"line {'abcdef'[start]} {'abcdef'[end]} {words}")
    return Plan("\n".join(rows))


def some_plans(seed, many, **limits):
    """So many small plans by a rule."""
    picks = Picks(seed)
    return [random_plan(picks, **limits) for _ in range(many)]


def sound_plans(seed, many, **limits):
    """So many small sound plans by a rule."""
    picks = Picks(seed)
    plans = []
    while len(plans) < many:
        plan = random_plan(picks, **limits)
        if soundness(plan) == ("sound",):
            plans.append(plan)
    return plans


def forked_plan(forks, rows=()):
    """A plan with a row of places; each fork is so many lines on; together they make as many shifts as can be.

    The two parts of what all these ways add have the same sum, so none of them is below another one.
    """
    text = [f"place {letter} 2" for letter in "abcdefghijkl"[:len(forks) + 1]]
    weight = 2
    for start, end, many in zip("abcdefghijkl", "bcdefghijkl", forks):
        text += [f"line {start} {end} +{weight * at} +{weight * (many - 1 - at)}" for at in range(many)]
        weight *= many
    return Plan("\n".join(text + list(rows)))


# From a to f there are 2, 200 and 201 least shifts; all other tables are smaller.
NARROW = forked_plan((2, 1, 1, 1, 1))
FULL = forked_plan((2, 2, 2, 5, 5))
WIDE = forked_plan((2, 2, 2, 5, 5), ["line a f +1 +397"])


def points_of(plan, below):
    """All points of the plan with parts below the number."""
    return [(name, time) for name, depth in plan.places for time in all_times(depth, below)]


def some_works(picks, plan, most, below=4):
    """At most so many works, some of them at one point, with parts below the number."""
    points = points_of(plan, below)
    works = [picks.choice(points) for _ in range(picks.randint(0, most))]
    return tuple(sorted(works + works[:picks.randint(0, 1)]))


def put_soon(picks, plan, taken):
    """A point by a rule that is soon behind taken, mostly along a line; None if it cannot be put for it."""
    place, time = taken
    lines = [line for line in plan.lines if line[0] == place]
    if lines and picks.randrange(4):
        _, place, shift = picks.choice(lines)
        time = shifted(shift, time)
    at = picks.randrange(len(time))
    point = (place, time[:at] + (time[at] + picks.randrange(2),) + time[at + 1:])
    return point if can_put(plan, taken, point) else None


def enough_lines(plan):
    """So many lines that each least shift, and each trace, of a plan of depth two at most has a way of so many.

    What counts of a way are at most two of its lines, one for each part; between them no place stands twice.
    """
    return 3 * (len(plan) - 1) + 3
