"""Tables, and what could come where (section 6)."""

import itertools
import random

from support import NEVER, NO_POINTS, Case, all_ways, enough_lines, forked_plan, points_of, random_plan
from timesover.errors import BadName, BadPoint, TooMany
from timesover.plans import Plan
from timesover.shifts import is_below, joined_shift, kept_shift, least_shifts, shifted
from timesover.tables import could_come, shift_table, shows_could_come, table_ways
from timesover.times import is_before
from timesover.ways import way_shift

ROWS = ["place a 1", "place b 2", "place c 1", "line a b +0 =0", "line b b +0 +1", "line b c +0", "line c a +1"]
PLAN = Plan("\n".join(ROWS))


def plans(seed, many, **limits):
    """So many plans at random, always the same ones."""
    rng = random.Random(seed)
    return [random_plan(rng, **limits) for _ in range(many)]


def long_ways(plan, place):
    """All ways from a place that can count, by the place where they end."""
    ends = {name: [] for name, _ in plan.places}
    for way, end in all_ways(plan, place, enough_lines(plan)):
        ends[end].append(way)
    return ends


class Tables(Case):

    def test_the_least_shifts_of_all_ways(self):
        for plan in plans(10, 120, most_lines=4) + plans(11, 60, most_places=2, most_lines=3, numbers=(0, 1, 3, 9)):
            for one, _ in plan.places:
                for other, ways in long_ways(plan, one).items():
                    wanted = least_shifts(tuple(way_shift(plan, one, way) for way in ways))
                    self.alike(shift_table(plan, one, other), wanted)

    def test_each_row_has_a_way_with_this_very_shift(self):
        for plan in plans(12, 120, most_places=5, most_lines=9):
            for one, other in itertools.product([name for name, _ in plan.places], repeat=2):
                rows = table_ways(plan, one, other)
                self.alike(tuple(shift for shift, _ in rows), shift_table(plan, one, other))
                for shift, way in rows:
                    self.alike(way_shift(plan, one, way), shift)
                    self.assertEqual(plan.lines[way[-1]][1] if way else one, other)

    def test_each_line_leads_on_to_a_table(self):
        for plan in plans(13, 60, most_places=6, most_depth=4, most_lines=10):
            for one, _ in plan.places:
                kept = way_shift(plan, one, ())
                self.assertTrue([shift for shift in shift_table(plan, one, one) if is_below(shift, kept)])
                for start, end, shift in plan.lines:
                    for known in shift_table(plan, one, start):
                        joined = joined_shift(known, shift)
                        self.assertTrue([far for far in shift_table(plan, one, end) if is_below(far, joined)])

    def test_no_way(self):
        plan = Plan("place a 1\nplace b 4\nline b a +0")
        self.alike([shift_table(plan, "a", "b"), table_ways(plan, "a", "b")], [(), ()])
        self.alike([shift_table(plan, "b", "b"), shift_table(plan, "b", "a")], [((("+", 0),) * 4,), ((("+", 0),),)])

    def test_depths_one_and_four(self):
        plan = Plan("place a 1\nplace d 4\nline a d +1 =2 =3 =4\nline d d +0 +1 =0 +1\nline d a =9")
        ends = (("=", 2), ("=", 3), ("=", 4)), (("=", 3), ("=", 0), ("=", 5))
        self.alike(shift_table(plan, "a", "d"),
                   tuple((begin, *end) for begin in (("+", 1), ("=", 10)) for end in ends))
        self.alike(shift_table(plan, "d", "a"), ((("=", 9),),))
        self.alike(shift_table(other="a", plan=plan, one="a"), ((("+", 0),), (("=", 9),)))

    def test_a_ring_that_sets_a_part_makes_a_shift_less(self):
        plan = Plan("place a 2\nplace b 2\nline a b +0 +7\nline b b +1 =0\nline b b +0 +1")
        self.alike(shift_table(plan, "a", "b"), ((("+", 0), ("+", 7)), (("+", 1), ("=", 0))))
        self.alike(table_ways(plan, "a", "b"), (((("+", 0), ("+", 7)), (0,)), ((("+", 1), ("=", 0)), (0, 1))))

    def test_plans_that_are_not_sound(self):
        plan = Plan("place a 1\nplace b 1\nline a b +2\nline b a +0\nline b b =3\nline a a +0")
        self.alike([shift_table(plan, "a", "a"), shift_table(plan, "a", "b")],
                   [((("+", 0),), (("=", 3),)), ((("+", 2),), (("=", 3),))])
        self.alike(shift_table(plan, "b", "b"), ((("+", 0),), (("=", 3),)))

    def test_a_long_way_round(self):
        letters = "abcdefghijkl"
        rows = [f"place {letter} 1" for letter in letters]
        rows += [f"line {one} {other} +1" for one, other in zip(letters, letters[1:] + "a")] + ["line l l =30"]
        plan = Plan("\n".join(rows))
        self.alike(shift_table(plan, "b", "a"), ((("+", 11),), (("=", 31),)))
        self.alike(table_ways(plan, "b", "b")[1], ((("=", 32),), tuple(range(1, 11)) + (12, 11, 0)))

    def test_what_is_no_name_is_refused(self):
        for wrong in NEVER[:8] + ("d", "A", ("a",), ["a"], PLAN, {}, 0):
            for function in (shift_table, table_ways):
                self.refuses(BadName, wrong, function, PLAN, wrong, "a")
                self.refuses(BadName, wrong, function, PLAN, "a", wrong)
                self.refuses(BadName, wrong, function, PLAN, wrong, None)


class Sizes(Case):

    def test_two_hundred_shifts_are_let(self):
        plan = forked_plan((2, 2, 2, 5, 5))
        table = shift_table(plan, "a", "f")
        self.alike(table, tuple((("+", 2 * at), ("+", 398 - 2 * at)) for at in range(200)))
        for shift, way in table_ways(plan, "a", "f"):
            self.alike(way_shift(plan, "a", way), shift)
        self.alike(could_come(plan, ("a", (0, 0)), ("f", (197, 199))), ("barred", table))
        self.alike(could_come(plan, ("a", (0, 0)), ("f", (200, 199)))[0], "way")
        self.alike(shows_could_come(plan, ("a", (0, 0)), ("f", (197, 199)), ("barred", table)), True)

    def test_one_more_is_not(self):
        for row in ("line a f +1 +397", "line a f =999 =999", "line a f =0 +399", "line a f +399 =0"):
            plan = forked_plan((2, 2, 2, 5, 5), [row])
            for function in (shift_table, table_ways):
                self.refuses(TooMany, 200, function, plan, "a", "f")
                self.assertEqual(len(function(plan, "b", "f")), 100)
            for time in ((0, 0), (999, 999)):
                self.refuses(TooMany, 200, could_come, plan, ("a", (0, 0)), ("f", time))
                for value in (("way", (0, 2, 4, 6, 11)), None):
                    self.refuses(TooMany, 200, shows_could_come, plan, ("a", (0, 0)), ("f", time), value)
            for wrong in (None, ("a", (0,)), ("f", (True, 0))):
                self.refuses(BadPoint, wrong, could_come, plan, wrong, ("f", (0, 0)))
                self.refuses(BadPoint, wrong, could_come, plan, ("a", (0, 0)), wrong)
                self.refuses(BadPoint, wrong, shows_could_come, plan, ("a", (0, 0)), wrong, None)
            self.refuses(BadName, "g", shift_table, plan, "a", "g")

    def test_a_table_from_a_place_to_itself(self):
        plan = forked_plan((2, 2, 2, 5, 5), ["line f a +1 =0", "line a a =999 =999"])
        self.refuses(TooMany, 200, shift_table, plan, "f", "f")
        self.refuses(TooMany, 200, could_come, plan, ("f", (0, 0)), ("f", (0, 0)))

    def test_only_the_least_ones_of_all_ways_count(self):
        more = [f"place {letter} 2" for letter in "ghijk"]
        rows = [f"line {start} {end} +0 +0" for start, end in zip("aghijk", "ghijkf")]
        forks = (2, 2, 2, 4, 8)
        self.refuses(TooMany, 200, shift_table, forked_plan(forks), "a", "f")
        self.alike(shift_table(forked_plan(forks, more + rows), "a", "f"), ((("+", 0), ("+", 0)),))

    def test_hundreds_on_the_way_to_a_small_table(self):
        plan = forked_plan((2, 2, 5, 5, 8), ["place z 1", "line f z =5", "line f z +3"])
        self.refuses(TooMany, 200, shift_table, plan, "a", "f")
        self.alike(shift_table(plan, "a", "z"), ((("+", 3),), (("=", 5),)))


class Coming(Case):

    def test_by_the_definition(self):
        for plan in plans(14, 25, most_lines=4):
            for one, _ in plan.places:
                ends = long_ways(plan, one)
                for point, other in itertools.product(points_of(plan, 3), repeat=2):
                    if point[0] != one:
                        continue
                    leads = any(is_before(shifted(way_shift(plan, one, way), point[1]), other[1])
                                for way in ends[other[0]])
                    self.check(plan, point, other, leads)

    def check(self, plan, point, other, leads):
        """What is told is right, and is taken back."""
        told = could_come(plan, point, other)
        self.assertEqual(len(told), 2)
        self.assertIs(shows_could_come(plan, point, other, told), True)
        if not leads:
            self.alike(told, ("barred", shift_table(plan, point[0], other[0])))
            return
        self.alike(told[0], "way")
        self.assertTrue(is_before(shifted(way_shift(plan, point[0], told[1]), point[1]), other[1]))
        self.assertEqual(plan.lines[told[1][-1]][1] if told[1] else point[0], other[0])

    def test_an_order_but_for_points_that_come_to_each_other(self):
        for plan in plans(15, 10):
            points = points_of(plan, 2)
            pairs = {(one, other) for one, other in itertools.product(points, repeat=2)
                     if could_come(plan, one, other)[0] == "way"}
            for point in points:
                self.assertIn((point, point), pairs)
            for (one, other), third in itertools.product(pairs, points):
                if (other, third) in pairs:
                    self.assertIn((one, third), pairs)
                if third[0] == other[0] and is_before(other[1], third[1]):
                    self.assertIn((one, third), pairs)

    def test_arguments_by_name(self):
        self.alike(could_come(other=("b", (3, 0)), point=("b", (2, 5)), plan=PLAN), ("way", (2, 3, 0)))
        told = ("way", (2, 3, 0))
        self.alike(shows_could_come(value=told, other=("b", (3, 0)), point=("b", (2, 5)), plan=PLAN), True)

    def test_what_is_no_point_is_refused(self):
        for wrong in NO_POINTS:
            self.refuses(BadPoint, wrong, could_come, PLAN, wrong, ("a", (0,)))
            self.refuses(BadPoint, wrong, could_come, PLAN, ("a", (0,)), wrong)
            self.refuses(BadPoint, wrong, could_come, PLAN, wrong, ("d", None))
            for value in (None, ("way", ()), wrong):
                self.refuses(BadPoint, wrong, shows_could_come, PLAN, wrong, ("a", (0,)), value)
                self.refuses(BadPoint, wrong, shows_could_come, PLAN, ("a", (0,)), wrong, value)
                self.refuses(BadPoint, wrong, shows_could_come, PLAN, wrong, ("d", None), value)


class Shown(Case):

    def test_every_right_way_and_no_other_one(self):
        for plan in plans(16, 20):
            ways = {name: all_ways(plan, name, 4) for name, _ in plan.places}
            every = sorted({way for rows in ways.values() for way, _ in rows})
            for point, other in itertools.product(points_of(plan, 2), repeat=2):
                ends = dict(ways[point[0]])
                for way in every:
                    right = ends.get(way) == other[0] and is_before(
                        shifted(way_shift(plan, point[0], way), point[1]), other[1])
                    self.alike(shows_could_come(plan, point, other, ("way", way)), right)

    def test_the_table_exactly_if_no_way_leads(self):
        for plan in plans(17, 20):
            for point, other in itertools.product(points_of(plan, 2), repeat=2):
                table = shift_table(plan, point[0], other[0])
                barred = not [shift for shift in table if is_before(shifted(shift, point[1]), other[1])]
                self.alike(shows_could_come(plan, point, other, ("barred", table)), barred)
                self.alike(shows_could_come(plan, point, other, ("barred", table + table[:1])), barred and not table)
                self.alike(shows_could_come(plan, point, other, ("barred", table[1:])), barred and not table)

    def test_values_of_any_kind(self):
        right = ("barred", ((("+", 1),),))
        wrong = NEVER + (
            (), ("barred",), ("barred", ()), right + (1,), ("barred", [(("+", 1),)]), ("barred", ([("+", 1)],)),
            ("barred", ((["+", 1],),)), ("barred", ((("+", True),),)), ("barred", ((("+", 2),),)),
            ("barred", ((("=", 1),),)), ("barred", ((("+", 1),), (("+", 1),))), ("barred", None), list(right),
            ("way", ((("+", 1),),)), ("way", ()), ("way", (2,)), ("way", None), (None, ((("+", 1),),)), (True, False),
            ("Barred", right[1]), (right[1], "barred"), right[1], (["barred"], right[1]), (PLAN, PLAN),
            ("barred", right), nested_in("barred", 58),
        )
        self.shown(("b", (2, 5)), ("a", (2,)), right, wrong)
        self.shown(("b", (2, 5)), ("a", (1,)), right, wrong)

    def test_ways_of_any_kind(self):
        wrong = NEVER + (
            (), ("way",), ("way", (2, 3), 0), ["way", (2, 3)], ("way", [2, 3]), ("way", (2,)), ("way", ()),
            ("way", (2, 3, 0, 2)), ("way", (2, 3, 0, 2, 3)), ("way", (2, "3")), ("way", (2, True)),
            ("way", (True, 2, 3)), ("way", (3,)), ("way", (2, -1)), ("way", (2, 3, -4, -2, -1)), ("way", (2, None)),
            ("way", (2, 4)), ("way", 2), ("way", None), ("way", "23"), ("way", ((2, 3),)), ("way", {2: 3}),
            ("way", PLAN), ("ways", (2, 3)),
            ("barred", (2, 3)), ("barred", ((("+", 1),),)), ("barred", ()), ((2, 3), "way"), (None, (2, 3)),
            (["way"], (2, 3)),
        )
        self.shown(("b", (2, 5)), ("a", (3,)), ("way", (2, 3)), wrong)
        self.shown(("b", (2, 5)), ("a", (3,)), ("way", (1, 1, 2, 3)), wrong)

    def shown(self, point, other, right, wrong):
        """The right value is shown, each wrong one is not."""
        self.alike(shows_could_come(PLAN, point, other, right), True)
        for value in wrong:
            self.alike(shows_could_come(PLAN, point, other, value), False)

    def test_where_no_way_leads_at_all(self):
        plan = Plan("place a 1\nplace b 1")
        self.alike(could_come(plan, ("a", (0,)), ("b", (9,))), ("barred", ()))
        self.alike([shows_could_come(plan, ("a", (0,)), ("b", (9,)), value)
                    for value in (("barred", ()), ("barred", []), ("barred", None), ("barred", False), ("way", ()))],
                   [True, False, False, False, False])

    def test_ways_of_a_thousand_lines_and_of_one_more(self):
        plan = Plan("place a 1\nplace b 1\nline a a +0\nline a b =1\nline b b +1")
        one, other = ("a", (5,)), ("b", (1,))
        self.alike(shows_could_come(plan, one, other, ("way", (0,) * 999 + (1,))), True)
        self.alike(shows_could_come(plan, one, other, ("way", (0,) * 1000 + (1,))), False)
        self.alike(shows_could_come(plan, one, one, ("way", (0,) * 1000)), True)
        self.alike(shows_could_come(plan, one, one, ("way", (0,) * 1001)), False)
        self.alike(shows_could_come(plan, one, ("b", (10 ** 6,)), ("way", (1,) + (2,) * 999)), True)
        self.alike(shows_could_come(plan, one, ("b", (10 ** 6,)), ("way", (1,) + (2,) * 1000)), False)
        self.alike(shows_could_come(plan, one, ("b", (999,)), ("way", (1,) + (2,) * 999)), False)


class Deep(Case):

    def test_tables_of_deep_plans_by_rounds(self):
        for plan in plans(18, 40, most_places=5, most_depth=4, most_lines=9, numbers=(0, 0, 1, 2, 5)):
            for one, depth in plan.places:
                known = {name: () for name, _ in plan.places}
                known[one] = (kept_shift(depth),)
                for _ in range(60):
                    longer = {name: () for name in known}
                    for start, end, shift in plan.lines:
                        longer[end] += tuple(joined_shift(far, shift) for far in known[start])
                    known = {name: least_shifts(known[name] + longer[name]) for name in known}
                for other, table in known.items():
                    self.alike(shift_table(plan, one, other), table)


def nested_in(word, depth):
    """The word in a tuple in a tuple in a tuple."""
    value = word
    for _ in range(depth):
        value = (value,)
    return (word, value)
