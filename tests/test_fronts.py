"""Fronts (section 8)."""

import itertools

from support import (
    FULL, NARROW, NEVER, NO_NAMES, NO_POINTS, NO_TIMES_AT_B, NO_WORKS, WIDE, Case, Picks, all_ways, enough_lines,
    points_of, some_plans, some_works, sound_plans,
)
from timesover.errors import BadName, BadPoint, BadTime, BadWorks, TooMany
from timesover.fronts import (
    common_front, front_of, front_reasons, fronts_of, fronts_without, holders_of, is_over, least_works, same_fronts,
    shows_front_reasons, shows_same_fronts,
)
from timesover.plans import Plan, can_put, depth_of
from timesover.shifts import shifted
from timesover.sound import soundness
from timesover.tables import could_come
from timesover.times import common_time, is_before, least_times
from timesover.ways import way_shift

ROWS = ["place a 1", "place b 2", "place c 1", "line a b +0 =0", "line b b +0 +1", "line b c +0", "line c a +1"]
PLAN = Plan("\n".join(ROWS))
WORKS = (("b", (2, 5)), ("c", (4,)))


def comes(plan, works, point):
    """Whether one of works could come to the point."""
    return any(could_come(plan, work, point)[0] == "way" for work in works)


def sample(seed, many, most=4, sound=False, **limits):
    """Plans with works, by a rule."""
    picks = Picks(seed)
    plans = sound_plans(seed, many, **limits) if sound else some_plans(seed, many, **limits)
    return [(plan, some_works(picks, plan, most)) for plan in plans]


def lesser(time):
    """The times with one part that is 1 less."""
    return [time[:at] + (part - 1,) + time[at + 1:] for at, part in enumerate(time) if part > 0]


class Fronts(Case):

    def test_the_least_times_that_can_come(self):
        both = set()
        for plan, works in sample(30, 150) + sample(31, 30, most_places=4, most_depth=4, most_lines=7):
            fronts = []
            both.add(soundness(plan) == ("sound",))
            for place, depth in plan.places:
                front = front_of(plan, works, place)
                fronts.append(front)
                self.alike(front, least_times(front))
                for time in front:
                    self.assertTrue(comes(plan, works, (place, time)))
                    self.assertFalse([far for far in lesser(time) if comes(plan, works, (place, far))])
                for point in points_of(Plan(f"place {place} {depth}"), 7 if depth < 3 else 3):
                    self.check_time(plan, works, front, point)
            self.alike(fronts_of(plan, works), tuple(fronts))
        self.assertEqual(both, {True, False})

    def check_time(self, plan, works, front, point):
        """What is told of a time is so by what could come."""
        holders = tuple(work for work in works if could_come(plan, work, point)[0] == "way")
        self.alike(is_over(plan, works, *point), not holders)
        self.alike(holders_of(plan, works, *point), holders)
        self.assertEqual(any(is_before(time, point[1]) for time in front), bool(holders))

    def test_by_all_ways(self):
        for plan, works in sample(32, 60, most_lines=3):
            for place, _ in plan.places:
                times = [shifted(way_shift(plan, work[0], way), work[1]) for work in works
                         for way, end in all_ways(plan, work[0], enough_lines(plan)) if end == place]
                self.alike(front_of(plan, works, place), least_times(tuple(times)))

    def test_no_works(self):
        for plan in (PLAN, WIDE, Plan("place a 4\nline a a +0 =0 +0 +0")):
            self.alike(fronts_of(plan, ()), ((),) * len(plan))
            self.alike([front_of(plan, (), "a"), holders_of(plan, (), "a", (0,) * plan.places[0][1])], [(), ()])
            self.alike([is_over(plan, (), "a", (at,) * plan.places[0][1]) for at in (0, 10 ** 39)], [True, True])

    def test_works_that_stand_several_times(self):
        works = (("a", (1,)), ("a", (1,)), ("b", (1, 0)), ("c", (0,)), ("c", (0,)), ("c", (0,)))
        self.alike(fronts_of(PLAN, works), fronts_of(PLAN, works[1:4]))
        self.alike(holders_of(PLAN, works, "a", (1,)), works[:2] + works[3:])
        self.alike(holders_of(PLAN, works, "b", (1, 0)), works)
        self.alike(holders_of(PLAN, works, "c", (0,)), works[3:])

    def test_arguments_by_name(self):
        self.alike(front_of(place="b", works=WORKS, plan=PLAN), ((2, 5), (3, 0)))
        self.alike(fronts_of(works=WORKS, plan=PLAN)[2], ((2,),))
        self.alike(is_over(time=(7, 0), place="b", works=WORKS, plan=PLAN), False)
        self.alike(holders_of(time=(3,), place="c", works=WORKS, plan=PLAN), WORKS[:1])
        self.alike(common_front(place="b", works=WORKS, plan=PLAN), ((5, 0),))
        self.alike(fronts_without(work=WORKS[1], works=WORKS, plan=PLAN), ())
        self.alike(least_works(works=WORKS, plan=PLAN), WORKS[:1])
        self.alike(same_fronts(other=WORKS[:1], one=WORKS, plan=PLAN), ("same",))
        self.alike(shows_same_fronts(value=("same",), other=WORKS[:1], one=WORKS, plan=PLAN), True)
        self.alike(shows_front_reasons(value=front_reasons(place="a", works=WORKS, plan=PLAN), place="a", works=WORKS,
                                       plan=PLAN), True)


class Laws(Case):

    def test_fronts_are_the_least_ones_that_go_along(self):
        for plan, works in sample(33, 80, most_lines=6):
            fronts = dict(zip([name for name, _ in plan.places], fronts_of(plan, works)))
            later = [(place, time) for place, time in works] + [
                (end, shifted(shift, time)) for start, end, shift in plan.lines for time in fronts[start]]
            for place, time in later:
                self.assertTrue([far for far in fronts[place] if is_before(far, time)])
            # Those that go along, worked out by going along from the works again and again.
            known = {name: least_times(tuple(time for place, time in works if place == name)) for name in fronts}
            for _ in range(30):
                for start, end, shift in plan.lines:
                    known[end] = least_times(known[end] + tuple(shifted(shift, time) for time in known[start]))
            self.alike(fronts, known)

    def test_works_of_two_together(self):
        for plan, works in sample(34, 60, most=6):
            for at in range(len(works) + 1):
                rows = zip(fronts_of(plan, works[:at]), fronts_of(plan, works[at:]))
                self.alike(fronts_of(plan, works), tuple(least_times(one + other) for one, other in rows))

    def test_what_is_over_stays_over(self):
        picks = Picks(35)
        for plan, works in sample(35, 80, most=3):
            for work in works:
                far = [point for point in points_of(plan, 5) if can_put(plan, work, point)]
                put = [picks.choice(far) for _ in range(picks.randint(0, 3)) if far]
                at = works.index(work)
                behind = tuple(sorted(works[:at] + works[at + 1:] + tuple(put)))
                for ahead, later in zip(fronts_of(plan, works), fronts_of(plan, behind)):
                    for time in later:
                        self.assertTrue([far for far in ahead if is_before(far, time)])


class Common(Case):

    def test_the_least_times_to_which_each_could_come(self):
        for plan, works in sample(36, 80, most=3) + sample(37, 10, most_places=3, most_depth=4, most_lines=5):
            for place, depth in plan.places:
                front = common_front(plan, works, place)
                self.alike(front, least_times(front))
                for time in front:
                    self.assertTrue(self.do_all_come(plan, works, (place, time)))
                    self.assertFalse([far for far in lesser(time) if self.do_all_come(plan, works, (place, far))])
                for point in points_of(Plan(f"place {place} {depth}"), 8 if depth < 3 else 3):
                    self.assertEqual(any(is_before(time, point[1]) for time in front),
                                     self.do_all_come(plan, works, point))

    def do_all_come(self, plan, works, point):
        """Whether each of works could come to the point."""
        return all(could_come(plan, work, point)[0] == "way" for work in works)

    def test_no_works_and_no_such_time(self):
        self.alike([common_front(PLAN, (), place) for place in "abc"], [((0,),), ((0, 0),), ((0,),)])
        self.alike(common_front(Plan("place a 4"), (), "a"), ((0, 0, 0, 0),))
        plan = Plan("place a 1\nplace b 1\nplace c 1\nline a b +0")
        self.alike([common_front(plan, (("a", (1,)), ("c", (0,))), place) for place in "abc"], [()] * 3)
        self.alike(common_front(plan, (("a", (1,)), ("b", (4,))), "b"), ((4,),))

    def test_many_least_times(self):
        front = front_of(FULL, (("a", (0, 0)),), "f")
        self.alike(front, tuple((2 * at, 398 - 2 * at) for at in range(200)))
        works = (("a", (0, 1)), ("a", (3, 0)))
        fronts = [front_of(FULL, (work,), "f") for work in works]
        wanted = least_times(tuple(common_time(one, other) for one, other in itertools.product(*fronts)))
        self.alike(common_front(FULL, works, "f"), wanted)


class Without(Case):

    def test_the_places_whose_front_is_another_one(self):
        for plan, works in sample(38, 100, most=5):
            for work in works:
                rest = list(works)
                rest.remove(work)
                wanted = []
                for place, _ in plan.places:
                    fronts = front_of(plan, works, place), front_of(plan, tuple(rest), place)
                    if fronts[0] != fronts[1]:
                        wanted.append((place, *fronts))
                self.alike(fronts_without(plan, works, work), tuple(wanted))

    def test_one_of_several_alike(self):
        works = (("a", (1,)), ("a", (1,)))
        self.alike(fronts_without(PLAN, works, ("a", (1,))), ())
        self.alike(fronts_without(PLAN, works[:1], ("a", (1,))),
                   (("a", ((1,),), ()), ("b", ((1, 0),), ()), ("c", ((1,),), ())))

    def test_what_is_none_of_works_is_refused(self):
        for wrong in NO_POINTS + (("a", (0,)), ("b", (2, 6)), ("c", (True,)), ("c", (4, 0)), WORKS, (WORKS[0],)):
            self.refuses(BadPoint, wrong, fronts_without, PLAN, WORKS, wrong)
        self.refuses(BadPoint, ("a", (True,)), fronts_without, PLAN, (("a", (1,)),), ("a", (True,)))
        self.refuses(BadPoint, ("a", (1,)), fronts_without, PLAN, (), ("a", (1,)))


class Least(Case):

    def test_those_to_which_only_such_works_could_come(self):
        for plan, works in sample(39, 150, most=6) + sample(40, 60, most=6, sound=True):
            wanted = []
            for work in sorted(set(works)):
                ahead = [far for far in works if comes(plan, (far,), work)]
                if all(comes(plan, (work,), far) for far in ahead):
                    wanted.append(work)
            self.alike(least_works(plan, works), tuple(wanted))
            self.alike(fronts_of(plan, least_works(plan, works)), fronts_of(plan, works))

    def test_points_that_could_come_to_each_other(self):
        plan = Plan("place a 1\nplace b 1\nline a b +0\nline b a +0")
        works = (("a", (1,)), ("a", (1,)), ("a", (2,)), ("b", (1,)))
        self.alike(least_works(plan, works), (("a", (1,)), ("b", (1,))))
        self.alike([least_works(plan, works[2:]), least_works(plan, ())], [(("b", (1,)),), ()])


class Errors(Case):

    def test_what_are_no_works_is_refused(self):
        for wrong in NO_WORKS:
            self.refuses(BadWorks, wrong, fronts_of, PLAN, wrong)
            self.refuses(BadWorks, wrong, least_works, PLAN, wrong)
            self.refuses(BadWorks, wrong, same_fronts, PLAN, wrong, WORKS)
            self.refuses(BadWorks, wrong, same_fronts, PLAN, WORKS, wrong)
            self.refuses(BadWorks, wrong, same_fronts, PLAN, wrong, (None,))
            self.refuses(BadWorks, wrong, shows_same_fronts, PLAN, wrong, (None,), ("same",))
            self.refuses(BadWorks, wrong, shows_same_fronts, PLAN, WORKS, wrong, None)
            for function in (front_of, front_reasons, common_front):
                self.refuses(BadWorks, wrong, function, PLAN, wrong, "a")
            for function in (is_over, holders_of):
                self.refuses(BadWorks, wrong, function, PLAN, wrong, "a", (0,))
            self.refuses(BadWorks, wrong, fronts_without, PLAN, wrong, ("a", (0,)))
            self.refuses(BadWorks, wrong, shows_front_reasons, PLAN, wrong, "a", ())

    def test_what_is_no_name_or_no_time_of_the_place_is_refused(self):
        for wrong in NO_NAMES:
            for function in (front_of, front_reasons, common_front):
                self.refuses(BadName, wrong, function, PLAN, WORKS, wrong)
            for function in (is_over, holders_of, shows_front_reasons):
                self.refuses(BadName, wrong, function, PLAN, WORKS, wrong, (0,))
        for wrong in NO_TIMES_AT_B:
            for function in (is_over, holders_of):
                self.refuses(BadTime, wrong, function, PLAN, WORKS, "b", wrong)

    def test_which_error_is_raised_first(self):
        works = (("a", (0, 0)), ("b", (1, 2)))
        no_works, no_name = (1, BadWorks, (None,), (None,)), (2, BadName, "g", "g")
        wide = (0, TooMany, WIDE, 200)
        for function in (front_of, front_reasons, common_front):
            self.refuses_in_order(function, (NARROW, works, "b"), (no_works, no_name, wide))
        for function in (is_over, holders_of):
            self.refuses_in_order(function, (NARROW, works, "b", (0, 0)),
                                  (no_works, no_name, (3, BadTime, (0,), (0,)), wide))
        self.refuses_in_order(shows_front_reasons, (NARROW, works, "b", None), (no_works, no_name, wide))
        self.refuses_in_order(fronts_without, (NARROW, works, works[0]),
                              (no_works, (2, BadPoint, works[0][::-1], works[0][::-1]), wide))
        for function in (fronts_of, least_works):
            self.refuses_in_order(function, (NARROW, works), (no_works, wide))
        self.refuses_in_order(same_fronts, (NARROW, works, works), (no_works, (2, BadWorks, [], []), wide))
        self.refuses_in_order(shows_same_fronts, (NARROW, works, works, None), (no_works, (2, BadWorks, [], []), wide))

    def test_a_table_of_201_shifts_to_whichever_place(self):
        near, far = (("a", (0, 0)),), (("b", (0, 0)), ("f", (1, 1)))
        for place in "abf":
            for works in (near, near + far):
                for function in (front_of, front_reasons, common_front):
                    self.refuses(TooMany, 200, function, WIDE, works, place)
                self.refuses(TooMany, 200, is_over, WIDE, works, place, (0, 0))
                self.refuses(TooMany, 200, holders_of, WIDE, works, place, (0, 0))
                self.refuses(TooMany, 200, shows_front_reasons, WIDE, works, place, None)
            self.alike(front_of(WIDE, far, place), front_of(FULL, far, place))
            self.assertTrue(front_of(FULL, near + far, place))
        self.refuses(TooMany, 200, same_fronts, WIDE, near, far)
        self.refuses(TooMany, 200, same_fronts, WIDE, far, near)
        self.refuses(TooMany, 200, fronts_without, WIDE, near + far, far[0])
        self.alike(same_fronts(WIDE, far, far), ("same",))
        self.alike(least_works(WIDE, far), far)


class Reasons(Case):

    def test_each_time_with_a_work_and_a_way(self):
        for plan, works in sample(41, 120) + sample(42, 20, most_places=6, most_depth=4, most_lines=10):
            for place, _ in plan.places:
                told = front_reasons(plan, works, place)
                self.alike(tuple(time for time, _, _ in told), front_of(plan, works, place))
                for time, work, way in told:
                    self.assertIn(work, works)
                    self.assertEqual(plan.lines[way[-1]][1] if way else work[0], place)
                    self.alike(shifted(way_shift(plan, work[0], way), work[1]), time)
                self.alike(shows_front_reasons(plan, works, place, told), True)

    def test_every_right_reason_and_no_other_one(self):
        for plan, works in sample(43, 25, most=2, most_lines=3):
            ways = sorted({way for place, _ in plan.places for way, _ in all_ways(plan, place, 3)})
            for place, _ in plan.places:
                told = front_reasons(plan, works, place)
                for at, (time, _, _) in enumerate(told):
                    for work, way in itertools.product(points_of(plan, 4), ways):
                        right = (work in works and (way, place) in all_ways(plan, work[0], 3)
                                 and shifted(way_shift(plan, work[0], way), work[1]) == time)
                        value = told[:at] + ((time, work, way),) + told[at + 1:]
                        self.alike(shows_front_reasons(plan, works, place, value), right)

    def test_the_front_as_a_whole(self):
        told = front_reasons(PLAN, WORKS, "b")
        self.assertEqual(len(told), 2)
        later = ((3, 1), ("b", (2, 5)), (2, 3, 0, 1))
        for wrong in (told[:1], told[1:], told[::-1], told + told[:1], (told[0], told[0]), list(told), (), None,
                      told + (None,), told + (later,), (told[0], later), (told,), (told[0], list(told[1]))):
            self.alike(shows_front_reasons(PLAN, WORKS, "b", wrong), False)
        self.alike([shows_front_reasons(PLAN, (), "b", value) for value in ((), [], None, False, ((),))],
                   [True, False, False, False, False])

    def test_values_of_any_kind(self):
        plan, works = Plan("place a 1\nplace b 1\nline a b +1\nline b b +1"), (("a", (0,)), ("a", (1,)))
        self.alike(shows_front_reasons(plan, works, "b", (((1,), ("a", (0,)), (0,)),)), True)
        work = ("a", (0,))
        rows = [((True,), work, (0,)), ([1], work, (0,)), ((1, 0), work, (0,)), (1, work, (0,)), (None, work, (0,)),
                ((1,), ("a", (False,)), (0,)), ((1,), ["a", (0,)], (0,)), ((1,), ("a", [0]), (0,)), ((1,), None, (0,)),
                ((1,), work, [0]), ((1,), work, (False,)), ((1,), work, 0), ((1,), work, None), ((1,), work, ()),
                ((1,), work, (1,)), ((1,), work, (-2,)), ((1,), work, (2,)), ((1,), work, (0, 1)), ((2,), work, (0, 1)),
                ((1,), ("b", (1,)), ()), ((1,), ("a", (2,)), (0,)), ((2,), ("a", (1,)), (0,)), {}, "abc", ((1,), work),
                ((1,), ("a", (1,)), (0,)), ((1,), work, (0,), 0), [(1,), work, (0,)]]
        for row in rows + list(NEVER):
            self.alike(shows_front_reasons(plan, works, "b", (row,)), False)
            self.alike(shows_front_reasons(plan, works, "b", row), False)

    def test_ways_of_a_thousand_lines_and_of_one_more(self):
        plan, works = Plan("place a 1\nline a a +0"), (("a", (5,)),)
        self.alike([shows_front_reasons(plan, works, "a", (((5,), ("a", (5,)), (0,) * many),))
                    for many in (0, 1, 1000, 1001, 2000)], [True, True, True, False, False])


class Same(Case):

    def test_a_work_that_parts_them_or_that_all_fronts_are_the_same(self):
        both = set()
        for seed, sound in ((44, False), (45, True)):
            picks = Picks(seed)
            for plan, one in sample(seed, 150, most=3, sound=sound):
                other = some_works(picks, plan, 3) if picks.randrange(3) else least_works(plan, one)
                right = self.right_values(plan, one, other)
                both.add((right[0][0], right[0][-1] == 1))
                self.assertIn(same_fronts(plan, one, other), right)
                for value in right:
                    self.alike(shows_same_fronts(plan, one, other, value), True)
                for number, work in itertools.product((0, 1), points_of(plan, 4)):
                    value = ("parts", number, work)
                    self.alike(shows_same_fronts(plan, one, other, value), value in right)
                self.alike(shows_same_fronts(plan, one, other, ("same",)), right == [("same",)])
                if sound:
                    self.assertEqual(right == [("same",)], least_works(plan, one) == least_works(plan, other))
        self.assertEqual({word for word, _ in both}, {"same", "parts"})

    def right_values(self, plan, one, other):
        """All that same_fronts may return."""
        for number, (works, others) in enumerate(((one, other), (other, one))):
            lone = [work for work in works if not comes(plan, others, work)]
            if lone:
                self.assertNotEqual(fronts_of(plan, one), fronts_of(plan, other))
                return [("parts", number, work) for work in lone]
        self.alike(fronts_of(plan, one), fronts_of(plan, other))
        return [("same",)]

    def test_no_works(self):
        self.alike([same_fronts(PLAN, (), ()), same_fronts(PLAN, WORKS, ()), same_fronts(PLAN, (), WORKS[1:])],
                   [("same",), ("parts", 0, WORKS[0]), ("parts", 1, WORKS[1])])
        self.alike(shows_same_fronts(PLAN, WORKS, (), ("parts", 0, WORKS[1])), True)
        self.alike(shows_same_fronts(PLAN, (), WORKS, ("parts", 1, WORKS[0])), True)

    def test_values_of_any_kind(self):
        one, other = (("a", (1,)), ("a", (3,))), (("a", (2,)),)
        self.alike(shows_same_fronts(PLAN, one, other, ("parts", 0, ("a", (1,)))), True)
        self.alike(shows_same_fronts(PLAN, other, one, ("parts", 1, ("a", (1,)))), True)
        self.alike(shows_same_fronts(PLAN, one, one, ("same",)), True)
        work = ("a", (1,))
        wrong = NEVER + (
            (), ("parts",), ("parts", 0), ("parts", 0, work, 0), ["parts", 0, work], ("Parts", 0, work),
            (None, 0, work), ("parts", False, work), ("parts", True, work), ("parts", 2, work), ("parts", -1, work),
            ("parts", "0", work), ("parts", None, work), ("parts", 0, list(work)), ("parts", 0, ("a", (True,))),
            ("parts", 0, ("a", [1])),
            ("parts", 0, ("a", (3,))), ("parts", 0, ("a", (2,))), ("parts", 1, ("a", (2,))), ("parts", 0, ("a", (0,))),
            ("parts", 0, ("d", (1,))), ("parts", 0, None), ("parts", 0, ("a", (1, 0))), ("parts", work, 0),
            ["same"], "same", ("Same",), ("same", ()), ("same", 0, work), (("same",),), (PLAN, PLAN, PLAN),
        )
        for value in wrong:
            for mine, others in ((one, other), (other, one), (one, one)):
                self.alike(shows_same_fronts(PLAN, mine, others, value), False)
        self.alike(shows_same_fronts(PLAN, one, other, ("same",)), False)

    def test_depths(self):
        for place in "abc":
            point = (place, (9,) * depth_of(PLAN, place))
            self.alike(same_fronts(PLAN, (point,), (point, point)), ("same",))
