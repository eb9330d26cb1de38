"""Own works aside (section 13)."""

from histories import History
from support import (
    FULL, NARROW, NEVER, NO_NAMES, NO_POINTS, NO_WORKS, WIDE, Case, Picks, points_of, some_works, sound_plans,
)
from timesover.aside import aside_front, counts_front
from timesover.errors import BadCounts, BadName, BadWorks, NotSound, TooMany
from timesover.fronts import front_of
from timesover.plans import Plan
from timesover.shifts import shifted
from timesover.sound import shows_soundness
from timesover.tables import shift_table
from timesover.times import is_before, least_times

ROWS = ["place a 1", "place b 2", "place c 1", "line a b +0 =0", "line b b +0 +1", "line b c +0", "line c a +1"]
PLAN = Plan("\n".join(ROWS))
RINGED = Plan(PLAN.text + "\nline a a +0")
A = ("a", (0,))
NO_COUNTS = NEVER + (
    (A, 1), [(A, 1)], ((A, 0),), ((A, True),), ((A, False),), ((A, "1"),), ((A, None),), ((A, 1, 1),), ((A,),), (A,),
    ([A, 1],), ((1, A),), ((A, 1), (A, 1)), ((A, 1), (A, 2)), ((A, -1), (A, 1)), ((("a", (1,)), 1), (A, 1)),
    ((("b", (0, 0)), 1), (A, 1)), ((A, 1), None), ((A, (1,)),), {A: 1}, ((A, 1), (("a", (2,)), 0)),
    ((("a", (2,)), 1), (("a", (10,)), 1), (("a", (9,)), 1)),
) + tuple(((point, 1),) for point in NO_POINTS)


def some_counts(picks, plan, most):
    """Counts by a rule, some of them below 0."""
    points = sorted(set(some_works(picks, plan, most)))
    return tuple((point, picks.choice((-2, -1, 1, 1, 2, 3))) for point in points)


def front_by_shifts(plan, points, place):
    """The least times at the place to which one of the points could come."""
    return least_times(tuple(shifted(shift, time) for start, time in points
                             for shift in shift_table(plan, start, place)))


class Fronts(Case):

    def test_points_with_a_count_above_nought(self):
        picks = Picks(93)
        for plan in sound_plans(93, 100, most_lines=5):
            counts = some_counts(picks, plan, 5)
            for place, _ in plan.places:
                points = [point for point, count in counts if count > 0]
                self.alike(counts_front(plan, counts, place), front_by_shifts(plan, points, place))
                self.alike(counts_front(plan, counts, place), front_of(plan, tuple(points), place))
                self.alike(aside_front(plan, counts, (), place), counts_front(plan, counts, place))

    def test_less_one_for_each_work(self):
        picks = Picks(94)
        for plan in sound_plans(94, 100, most_lines=5):
            counts = some_counts(picks, plan, 5)
            works = some_works(picks, plan, 2) + tuple(point for point, _ in counts if picks.randrange(2))
            left = dict(counts)
            for work in works:
                left[work] = left.get(work, 0) - 1
            for place, _ in plan.places:
                points = [point for point, count in left.items() if count > 0]
                self.alike(aside_front(plan, counts, tuple(sorted(works)), place), front_by_shifts(plan, points, place))

    def test_counts_below_nought_and_none(self):
        self.alike([counts_front(PLAN, (), place) for place in "abc"], [()] * 3)
        self.alike([counts_front(PLAN, ((A, -3), (("c", (7,)), 2)), place) for place in "abc"],
                   [((8,),), ((8, 0),), ((7,),)])
        self.alike(aside_front(PLAN, (), (A, A), "a"), ())
        self.alike([aside_front(PLAN, ((A, 2), (("a", (4,)), 1)), (A,) * many, "a") for many in (1, 2, 3)],
                   [((0,),), ((4,),), ((4,),)])
        self.alike(counts_front(place="b", counts=((A, 10 ** 39),), plan=PLAN), ((0, 0),))
        self.alike(aside_front(place="b", works=(A,), counts=((A, 1),), plan=PLAN), ())

    def test_no_other_work_could_come_ahead_of_it(self):
        picks = Picks(95)
        seen = 0
        for plan in sound_plans(95, 120, most_lines=5):
            history = History(picks, plan, picks.randint(0, 10))
            for hand in range(3):
                # All deeds of the hand, and some of the others.
                deeds = [deed for deed in history.deeds if deed[0] == hand or deed in history.heard]
                works = [point for holder, point in history.held if holder == hand and picks.randrange(3)]
                others = history.works()
                for work in works:
                    others.remove(work)
                counts = history.counts(deeds)
                for place, _ in plan.places:
                    front = aside_front(plan, counts, tuple(sorted(works)), place)
                    for time in front_by_shifts(plan, others, place):
                        seen += 1
                        self.assertTrue([far for far in front if is_before(far, time)])
        self.assertGreater(seen, 200)


class Errors(Case):

    def test_what_are_no_counts_is_refused(self):
        for wrong in NO_COUNTS:
            self.refuses(BadCounts, wrong, counts_front, PLAN, wrong, "a")
            self.refuses(BadCounts, wrong, counts_front, PLAN, wrong, None)
            self.refuses(BadCounts, wrong, aside_front, PLAN, wrong, (), "a")
            self.refuses(BadCounts, wrong, aside_front, PLAN, wrong, None, None)

    def test_what_are_no_works_or_is_no_name_is_refused(self):
        for wrong in NO_WORKS:
            self.refuses(BadWorks, wrong, aside_front, PLAN, ((A, 1),), wrong, "a")
        for wrong in NO_NAMES:
            self.refuses(BadName, wrong, counts_front, PLAN, ((A, 1),), wrong)
            self.refuses(BadName, wrong, counts_front, PLAN, (), wrong)
            self.refuses(BadName, wrong, aside_front, PLAN, ((A, 1),), (A,), wrong)

    def test_which_error_is_raised_first(self):
        point = ("a", (0, 0))
        counts, wide = ((point, 1),), (0, TooMany, WIDE, 200)
        self.refuses_in_order(counts_front, (NARROW, counts, "f"),
                              ((1, BadCounts, None, None), (2, BadName, "g", "g"), wide))
        self.refuses_in_order(aside_front, (NARROW, counts, (), "f"), (
            (1, BadCounts, None, None), (2, BadWorks, (None,), (None,)), (3, BadName, "g", "g"), wide))
        for arguments in ((counts_front, (), "a"), (counts_front, None, None), (aside_front, None, None, None)):
            with self.assertRaises(NotSound) as caught:
                arguments[0](RINGED, *arguments[1:])
            self.alike(shows_soundness(RINGED, caught.exception.value), True)

    def test_only_tables_from_points_above_nought_to_the_place_can_be_too_large(self):
        near, far = ("a", (0, 0)), ("b", (0, 0))
        self.refuses(TooMany, 200, counts_front, WIDE, ((near, 1),), "f")
        self.refuses(TooMany, 200, counts_front, WIDE, ((near, 1), (far, 1)), "f")
        self.refuses(TooMany, 200, aside_front, WIDE, ((near, 2),), (near,), "f")
        self.assertEqual(len(counts_front(FULL, ((near, 1),), "f")), 200)
        for place in "abe":
            self.alike(counts_front(WIDE, ((near, 1),), place), front_by_shifts(FULL, [near], place))
        self.alike(counts_front(WIDE, ((near, -1), (far, 1)), "f"), front_by_shifts(FULL, [far], "f"))
        self.alike(aside_front(WIDE, ((near, 1), (far, 1)), (near,), "f"), front_by_shifts(FULL, [far], "f"))
        self.alike(aside_front(WIDE, ((far, 1),), (near,), "f"), front_by_shifts(FULL, [far], "f"))
        self.assertEqual([point for point in points_of(WIDE, 1) if counts_front(WIDE, ((point, 1),), "a")], [near])
