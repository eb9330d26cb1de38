"""Ways (section 6)."""

import random

from support import NEVER, Case, all_ways, random_plan
from timesover.errors import BadName, BadPoint, BadWay
from timesover.plans import Plan
from timesover.shifts import joined_shift, kept_shift, shifted
from timesover.ways import way_points, way_shift

ROWS = ["place a 1", "place b 2", "place c 1", "line a b +0 =0", "line b b +0 +1", "line b c +0", "line c a +1"]
PLAN = Plan("\n".join(ROWS))
NO_WAYS = NEVER + (
    (4,), (0, 4), (-1,), (0, -1), (-4,), (True,), (0, True), (1,), (0, 0), (0, 3), (2, 3), [0], (0, [1]), ((0,),),
    (0, None), ("0",), (10 ** 30,), (0, (1,)), {0: 1}, [], (0, 1, 2, 3, 1),
)


class Shifts(Case):

    def test_the_lines_joined_in_their_sequence(self):
        rng = random.Random(8)
        for _ in range(30):
            plan = random_plan(rng)
            for place, depth in plan.places:
                for way, _ in all_ways(plan, place, 4):
                    shift = kept_shift(depth)
                    for number in way:
                        shift = joined_shift(shift, plan.lines[number][2])
                    self.alike(way_shift(plan, place, way), shift)

    def test_the_way_of_no_line(self):
        plan = Plan("place a 1\nplace d 4")
        self.alike([way_shift(plan, "a", ()), way_shift(plan, "d", ())], [(("+", 0),), (("+", 0),) * 4])

    def test_sequence_counts(self):
        plan = Plan("place a 1\nline a a =3\nline a a +2")
        self.alike([way_shift(plan, "a", (0, 1)), way_shift(plan, "a", (1, 0))], [(("=", 5),), (("=", 3),)])

    def test_long_ways(self):
        plan = Plan("place a 2\nline a a +1 +0\nline a a +0 =7")
        self.alike(way_shift(plan, "a", (0,) * 1000), (("+", 1000), ("+", 0)))
        self.alike(way_shift(plan, "a", (0,) * 1001), (("+", 1001), ("+", 0)))
        self.alike(way_shift(plan, "a", (1,) + (0,) * 5000), (("+", 5000), ("=", 7)))

    def test_arguments_by_name(self):
        self.alike(way_shift(way=(2, 3), place="b", plan=PLAN), (("+", 1),))

    def test_what_is_no_name_or_no_way_is_refused(self):
        for wrong in NO_WAYS:
            self.refuses(BadWay, wrong, way_shift, PLAN, "a", wrong)
            self.refuses(BadName, "d", way_shift, PLAN, "d", wrong)
        for wrong in (None, True, "", "A", "d", ("a",), ["a"], 0, PLAN, {}):
            self.refuses(BadName, wrong, way_shift, PLAN, wrong, ())
        self.refuses(BadWay, (0,), way_shift, PLAN, "b", (0,))


class Points(Case):

    def test_each_line_makes_a_point(self):
        rng = random.Random(9)
        for _ in range(30):
            plan = random_plan(rng)
            for place, depth in plan.places:
                for way, end in all_ways(plan, place, 4):
                    points = way_points(plan, (place, (2,) * depth), way)
                    self.alike(points[0], (place, (2,) * depth))
                    self.assertEqual(len(points), len(way) + 1)
                    for number, point, other in zip(way, points, points[1:]):
                        start, stop, shift = plan.lines[number]
                        self.alike((point[0], other), (start, (stop, shifted(shift, point[1]))))
                    self.alike(points[-1], (end, shifted(way_shift(plan, place, way), (2,) * depth)))

    def test_the_way_of_no_line(self):
        self.alike(way_points(PLAN, ("b", (1, 10 ** 39)), ()), (("b", (1, 10 ** 39)),))

    def test_long_ways(self):
        plan = Plan("place a 1\nline a a +1")
        self.alike(way_points(plan, ("a", (5,)), (0,) * 1001), tuple(("a", (at,)) for at in range(5, 1007)))

    def test_arguments_by_name(self):
        self.alike(way_points(way=(3,), point=("c", (1,)), plan=PLAN), (("c", (1,)), ("a", (2,))))

    def test_what_is_no_point_or_no_way_is_refused(self):
        for wrong in NO_WAYS:
            self.refuses(BadWay, wrong, way_points, PLAN, ("a", (0,)), wrong)
            self.refuses(BadPoint, ("a", (True,)), way_points, PLAN, ("a", (True,)), wrong)
        for wrong in NEVER + (("b", (0,)), ("d", (0,)), ["a", (0,)], ("a", [0]), "a", ()):
            self.refuses(BadPoint, wrong, way_points, PLAN, wrong, ())
