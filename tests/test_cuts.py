"""Cuts of histories (section 15)."""

import collections
import itertools

from support import NEVER, NO_NAMES, NO_POINTS, Case, Picks, all_times, points_of, put_soon, sound_plans
from timesover.crews import Crew
from timesover.cuts import (
    cut_front, cut_lacks, cut_numbers, fewest_more, sharp_front, shows_fewest_more, surely_gone, whole_cuts,
    works_behind,
)
from timesover.errors import BadCut, BadHistory, BadName, TooMany
from timesover.plans import Plan, can_put
from timesover.shifts import shifted
from timesover.tables import could_come, shift_table
from timesover.times import is_before, least_times
from worlds import some_crew

ROWS = ["place a 1", "place b 2", "place c 1", "line a b +0 =0", "line b b +0 +1", "line b c +0", "line c a +1"]
CREW = Crew(Plan("\n".join(ROWS)), "hands 3\nwork 0 a 0\nwork 0 a 0\nwork 2 b 1 1")
DEEDS = ((0, ("a", (0,)), (("b", (0, 0)), ("b", (0, 0)))), (2, ("b", (0, 0)), (("c", (0,)),)), (0, ("c", (0,)), ()))
STEPS = Crew(Plan("place a 1\nline a a +1"), "hands 2\nwork 0 a 0\nwork 0 a 1000")


def two_rows(one, other):
    """A history of STEPS in which both hands lead a work on, each its own, so many times."""
    return tuple((0, ("a", (at,)), (("a", (at + 1,)),)) for at in range(one)) + tuple(
        (1, ("a", (1000 + at,)), (("a", (1001 + at,)),)) for at in range(other))


def some_deeds(picks, crew, works, many):
    """So many deeds by a rule, each of which takes one of the works; works is led on with them."""
    deeds = []
    for _ in range(many):
        if not works:
            break
        taken = works.pop(picks.randrange(len(works)))
        put = [put_soon(picks, crew.plan, taken) for _ in range(picks.randint(0, 3))]
        put = sorted(point for point in put if point is not None)
        works += put
        deeds.append((picks.randrange(crew.hands), taken, tuple(put)))
    return tuple(deeds)


class History:
    """A history with all its cuts, their numbers as they are counted here, and tables between the places."""

    def __init__(self, picks, crew, many):
        self.crew = crew
        self.plan = crew.plan
        self.works = [point for _, point in crew.works]
        self.deeds = some_deeds(picks, crew, self.works, many)
        self.by_hand = [[deed for deed in self.deeds if deed[0] == hand] for hand in range(crew.hands)]
        self.last = tuple(len(deeds) for deeds in self.by_hand)
        self.tables = {(one, other): shift_table(self.plan, one, other)
                       for one, _ in self.plan.places for other, _ in self.plan.places}

    def cuts(self, begun=None):
        """All cuts that have for no hand less than this one."""
        begun = begun or (0,) * self.crew.hands
        return list(itertools.product(*[range(low, most + 1) for low, most in zip(begun, self.last)]))

    def numbers(self, cut):
        """The number of each point for the cut."""
        numbers = collections.Counter(point for _, point in self.crew.works)
        for deeds, many in zip(self.by_hand, cut):
            for _, taken, put in deeds[:many]:
                numbers[taken] -= 1
                numbers.update(put)
        return {point: number for point, number in sorted(numbers.items()) if number}

    def lacks(self, cut):
        """Whether some point lacks works."""
        return any(number < 0 for number in self.numbers(cut).values())

    def comes(self, point, other):
        """Whether the point could come to the other one."""
        return any(is_before(shifted(shift, point[1]), other[1]) for shift in self.tables[point[0], other[0]])

    def front(self, points, place):
        """The least times at the place to which one of the points could come."""
        return least_times(tuple(shifted(shift, time) for start, time in set(points)
                                 for shift in self.tables[start, place]))

    def gone(self, cut):
        """The points with the number 1 that alone could come to a point that lacks works."""
        numbers = self.numbers(cut)
        above = [point for point, number in numbers.items() if number > 0]
        alone = [[point for point in above if self.comes(point, lacking)]
                 for lacking, number in numbers.items() if number < 0]
        return tuple(point for point, number in numbers.items() if number == 1 and [point] in alone)


def histories(seed, many, most=8, **limits):
    """Histories by a rule, each with picks."""
    picks = Picks(seed)
    plans = sound_plans(seed, many, **limits) + [CREW.plan] * (many // 4)
    rows = []
    for at, plan in enumerate(plans):
        far = Picks(seed * 1000 + at)
        rows.append((History(far, some_crew(picks, plan), picks.randint(0, most)), far))
    return rows


class Numbers(Case):

    def test_numbers_lacks_and_works(self):
        lacking = 0
        for history, picks in histories(160, 60):
            crew, deeds = history.crew, history.deeds
            works = collections.Counter(history.works)
            self.alike(works_behind(crew, deeds), tuple(sorted(works.items())))
            for cut in history.cuts()[:40] + [history.last]:
                numbers = history.numbers(cut)
                self.alike(cut_numbers(crew, deeds, cut), tuple(numbers.items()))
                lacks = tuple((point, -number) for point, number in numbers.items() if number < 0)
                self.alike(cut_lacks(crew, deeds, cut), lacks)
                lacking += len(lacks) > 0
            self.alike(cut_numbers(crew, deeds, history.last), works_behind(crew, deeds))
            self.alike(cut_lacks(crew, deeds, history.last), ())
        self.assertGreater(lacking, 100)

    def test_the_empty_cut_and_the_empty_history(self):
        for deeds in ((), DEEDS):
            self.alike(cut_numbers(CREW, deeds, (0, 0, 0)), ((("a", (0,)), 2), (("b", (1, 1)), 1)))
            self.alike([cut_lacks(CREW, deeds, (0, 0, 0)), surely_gone(CREW, deeds, (0, 0, 0))], [(), ()])
            self.alike(fewest_more(CREW, deeds, (0, 0, 0)), (0, (0, 0, 0)))
        self.alike([works_behind(CREW, ()), whole_cuts(CREW, ())], [((("a", (0,)), 2), (("b", (1, 1)), 1)), 1])
        crew = Crew(CREW.plan, "hands 2")
        self.alike([works_behind(crew, ()), cut_numbers(crew, (), (0, 0)), cut_front(crew, (), (0, 0), "b"),
                    sharp_front(crew, (), (0, 0), "b")], [(), (), (), ()])

    def test_points_that_lack_several_works(self):
        self.alike(cut_numbers(CREW, DEEDS, (0, 0, 1)), ((("a", (0,)), 2), (("b", (0, 0)), -1), (("b", (1, 1)), 1),
                                                        (("c", (0,)), 1)))
        deeds = DEEDS[:2] + ((2, ("b", (0, 0)), ()),)
        self.alike(cut_lacks(CREW, deeds, (0, 0, 2)), ((("b", (0, 0)), 2),))
        self.alike(works_behind(CREW, DEEDS), ((("a", (0,)), 1), (("b", (0, 0)), 1), (("b", (1, 1)), 1)))

    def test_arguments_by_name(self):
        self.alike(works_behind(deeds=DEEDS[:1], crew=CREW), ((("a", (0,)), 1), (("b", (0, 0)), 2), (("b", (1, 1)), 1)))
        self.alike(cut_numbers(cut=(1, 0, 0), deeds=DEEDS, crew=CREW), works_behind(CREW, DEEDS[:1]))
        self.alike(cut_lacks(cut=(0, 0, 1), deeds=DEEDS, crew=CREW), ((("b", (0, 0)), 1),))
        self.alike(cut_front(place="c", cut=(0, 0, 1), deeds=DEEDS, crew=CREW), ((0,),))
        self.alike(surely_gone(cut=(0, 0, 1), deeds=DEEDS, crew=CREW), ())
        self.alike(sharp_front(place="a", cut=(0, 0, 1), deeds=DEEDS, crew=CREW), ((0,),))
        self.alike(fewest_more(cut=(0, 0, 1), deeds=DEEDS, crew=CREW), (1, (1, 0, 1)))
        self.alike(shows_fewest_more(value=(1, (1, 0, 1)), cut=(0, 0, 1), deeds=DEEDS, crew=CREW), True)
        self.alike(whole_cuts(deeds=DEEDS, crew=CREW), 4)


class Fronts(Case):

    def test_the_front_of_what_is_counted_above_0(self):
        for history, picks in histories(161, 60):
            for cut in history.cuts()[:30] + [history.last]:
                above = [point for point, number in history.numbers(cut).items() if number > 0]
                for place, _ in history.plan.places:
                    told = cut_front(history.crew, history.deeds, cut, place)
                    self.alike(told, history.front(above, place))

    def test_what_is_surely_gone(self):
        seen = collections.Counter()
        for history, picks in histories(162, 120):
            behind = dict(works_behind(history.crew, history.deeds))
            longer = list(history.works)
            more = some_deeds(picks, history.crew, longer, 6)
            for cut in history.cuts()[:40] + [history.last]:
                gone = surely_gone(history.crew, history.deeds, cut)
                self.alike(gone, history.gone(cut))
                seen["gone"] += len(gone) > 0
                # No work is there any more, nor in the longer history, in which the same cut tells the same.
                self.assertFalse(set(gone) & (set(behind) | set(longer)))
                self.alike(surely_gone(history.crew, history.deeds + more, cut), gone)
                if not history.lacks(cut):
                    seen["whole"] += 1
                    self.alike(gone, ())
        self.assertGreater(min(seen["gone"], seen["whole"]), 100)

    def test_the_sharp_front_by_all_that_can_be_put_for_what_is_gone(self):
        sharper = 0
        for history, picks in histories(163, 60, most_depth=2):
            points = points_of(history.plan, 9)
            for cut in [cut for cut in history.cuts()[:60] if history.gone(cut)][:6]:
                gone = history.gone(cut)
                begun = [point for point, number in history.numbers(cut).items() if number > 0 and point not in gone]
                begun += [far for far in points if any(can_put(history.plan, point, far) for point in gone)]
                for place, depth in history.plan.places:
                    told = sharp_front(history.crew, history.deeds, cut, place)
                    wanted = history.front(begun, place)
                    # Times above 8 have no point in the grid that was gone through.
                    self.alike([time for time in told if max(time) < 8], [time for time in wanted if max(time) < 8])
                    self.alike(least_times(told), told)
                    sharper += told != cut_front(history.crew, history.deeds, cut, place)
        self.assertGreater(sharper, 30)

    def test_for_all_histories_and_longer_ones(self):
        """No work is, or comes, to where front or sharp front do not tell of it; sharp ones are within the front."""
        for history, picks in histories(164, 80):
            crew, deeds = history.crew, history.deeds
            longer = list(history.works)
            some_deeds(picks, crew, longer, 5)
            for cut in history.cuts()[:30] + [history.last]:
                for place, _ in history.plan.places:
                    front, sharp = cut_front(crew, deeds, cut, place), sharp_front(crew, deeds, cut, place)
                    self.assert_covered(front, sharp)
                    self.assert_covered(sharp, history.front(history.works, place))
                    self.assert_covered(sharp, history.front(longer, place))
                    if not history.lacks(cut):
                        self.alike(front, sharp)
                    if cut == history.last:
                        self.alike(sharp, history.front(history.works, place))

    def assert_covered(self, front, times):
        """Each of the times is at or behind one of the front."""
        for time in times:
            self.assertTrue(any(is_before(far, time) for far in front), (front, time))

    def test_two_that_could_have_led_to_what_lacks(self):
        plan = Plan("place a 1\nplace b 1\nplace c 1\nline a c +0\nline b c +1")
        for works, gone in (("\nwork 0 a 0", (("a", (0,)),)), ("\nwork 0 a 0\nwork 1 a 0", ()),
                            ("\nwork 0 a 0\nwork 1 b 0", ()), ("\nwork 0 a 0\nwork 1 b 1", (("a", (0,)),))):
            crew = Crew(plan, "hands 2" + works)
            deeds = ((0, ("a", (0,)), (("c", (1,)),)), (1, ("c", (1,)), ()))
            self.alike(surely_gone(crew, deeds, (0, 1)), gone)
            # The least times of those later at a, and of those at c by the line.
            fronts = [sharp_front(crew, deeds, (0, 1), place) for place in "ac"]
            self.alike(fronts, [((1,),) if gone else ((0,),), ((0,),)])

    def test_a_gone_point_of_depth_two(self):
        plan = Plan("place a 2\nplace b 1\nline a b +2")
        crew = Crew(plan, "hands 2\nwork 0 a 1 1")
        deeds = ((0, ("a", (1, 1)), (("a", (4, 4)), ("b", (3,)))), (1, ("b", (3,)), ()))
        self.alike(surely_gone(crew, deeds, (0, 1)), (("a", (1, 1)),))
        self.alike(sharp_front(crew, deeds, (0, 1), "a"), ((1, 2), (2, 1)))
        self.alike(sharp_front(crew, deeds, (0, 1), "b"), ((3,),))

    def test_a_gone_point_of_depth_four(self):
        crew = Crew(Plan("place a 4\nplace b 1\nline a b +0"), "hands 2\nwork 0 a 1 2 3 4")
        deeds = ((0, ("a", (1, 2, 3, 4)), (("b", (1,)),)), (1, ("b", (1,)), ()))
        self.alike(sharp_front(crew, deeds, (0, 1), "a"), ((1, 2, 3, 5), (1, 2, 4, 4), (1, 3, 3, 4), (2, 2, 3, 4)))


class Cuts(Case):

    def test_against_all_cuts(self):
        more = collections.Counter()
        for history, picks in histories(165, 120, most=9):
            crew, deeds = history.crew, history.deeds
            whole = [cut for cut in history.cuts() if not history.lacks(cut)]
            self.alike(whole_cuts(crew, deeds), len(whole))
            for cut in [picks.choice(history.cuts()) for _ in range(6)] + [history.last]:
                later = [far for far in whole if all(low <= high for low, high in zip(cut, far))]
                fewest = min(sum(far) for far in later) - sum(cut)
                rights = [(fewest, far) for far in later if sum(far) - sum(cut) == fewest]
                self.assertIn(fewest_more(crew, deeds, cut), rights)
                self.check_shows(history, cut, rights, later)
                more[fewest] += 1
        self.assertGreater(more[0], 20)
        self.assertGreater(more[1], 20)
        self.assertGreater(sum(many for fewest, many in more.items() if fewest > 1), 20)

    def check_shows(self, history, cut, rights, later):
        """shows_fewest_more takes just the right values."""
        for right in rights:
            self.alike(shows_fewest_more(history.crew, history.deeds, cut, right), True)
        fewest = rights[0][0]
        wrongs = [(sum(far) - sum(cut), far) for far in history.cuts()] + [(fewest, far) for far in history.cuts()]
        wrongs += [(many, rights[0][1]) for many in (fewest - 1, fewest + 1, -1, None, str(fewest))]
        for wrong in wrongs:
            if wrong not in rights:
                self.alike(shows_fewest_more(history.crew, history.deeds, cut, wrong), False)

    def test_several_cuts_with_as_few(self):
        # Two hands have put a work at the same point, of which the third one took one.
        crew = Crew(Plan("place a 1\nplace b 1\nline a b +0"), "hands 3\nwork 0 a 0\nwork 1 a 0")
        deeds = tuple((hand, ("a", (0,)), (("b", (0,)),)) for hand in (0, 1)) + ((2, ("b", (0,)), ()),)
        for right in ((1, (1, 0, 1)), (1, (0, 1, 1))):
            self.alike(shows_fewest_more(crew, deeds, (0, 0, 1), right), True)
        for wrong in ((2, (1, 1, 1)), (1, (1, 1, 1)), (0, (0, 0, 1)), (1, (1, 0, 0)), (1, (2, 0, 1)), (1, (1, 0, 1), 0),
                      (1, [1, 0, 1]), [1, (1, 0, 1)], (True, (1, 0, 1)), (1, (True, 0, 1)), (1, (1, False, 1)),
                      (1, (1, 0)), (1,), (1, None), (1, (1, 0, 1, 0)), ((1, (1, 0, 1)),), (1, (1, -1, 2)), (),
                      (1, ((1,), 0, 1)), (1, "101")) + NEVER:
            self.alike(shows_fewest_more(crew, deeds, (0, 0, 1), wrong), False)
        self.assertIn(fewest_more(crew, deeds, (0, 0, 1)), ((1, (1, 0, 1)), (1, (0, 1, 1))))
        self.alike(shows_fewest_more(crew, deeds, (0, 0, 0), (False, (0, 0, 0))), False)

    def test_20000_cuts_and_more(self):
        deeds = two_rows(159, 124)
        self.alike(whole_cuts(STEPS, deeds), 20000)
        self.alike(fewest_more(STEPS, deeds, (0, 0)), (0, (0, 0)))
        deeds = two_rows(160, 124)
        self.refuses(TooMany, 20000, whole_cuts, STEPS, deeds)
        self.refuses(TooMany, 20000, fewest_more, STEPS, deeds, (0, 0))
        for value in ((0, (0, 0)), None, (1, (0, 1))):
            self.refuses(TooMany, 20000, shows_fewest_more, STEPS, deeds, (0, 0), value)
        # Behind this cut there are not as many any more.
        self.alike(fewest_more(STEPS, deeds, (1, 0)), (0, (1, 0)))
        self.alike(shows_fewest_more(STEPS, deeds, (1, 0), (0, (1, 0))), True)
        self.alike(cut_numbers(STEPS, deeds, (160, 3)), ((("a", (160,)), 1), (("a", (1003,)), 1)))

    def test_a_cut_that_lacks_a_long_row(self):
        deeds = tuple((at == 99, ("a", (at,)), (("a", (at + 1,)),)) for at in range(100))
        deeds = tuple((int(hand), taken, put) for hand, taken, put in deeds)
        self.alike(cut_lacks(STEPS, deeds, (0, 1)), ((("a", (99,)), 1),))
        self.alike(fewest_more(STEPS, deeds, (0, 1)), (99, (99, 1)))
        self.alike([fewest_more(STEPS, deeds, (99, 0)), whole_cuts(STEPS, deeds)], [(0, (99, 0)), 101])


class Errors(Case):

    def functions(self):
        """All functions with a cut, each with further arguments that are right."""
        return ((cut_numbers, ()), (cut_lacks, ()), (cut_front, ("a",)), (surely_gone, ()), (sharp_front, ("a",)),
                (fewest_more, ()), (shows_fewest_more, (None,)))

    def refuses_history(self, number, deeds):
        """All functions refuse the history, ahead of all else."""
        for function in (works_behind, whole_cuts):
            self.refuses(BadHistory, number, function, CREW, deeds)
        for function, rest in self.functions():
            for cut in ((0, 0, 0), None):
                self.refuses(BadHistory, number, function, CREW, deeds, cut, *rest)
        self.refuses(BadHistory, number, cut_front, CREW, deeds, (0, 0, 0), None)

    def test_what_is_no_history_is_refused(self):
        for wrong in NEVER + ([], [DEEDS[0]], list(DEEDS), {0: DEEDS[0]}):
            self.refuses_history(None if not isinstance(wrong, tuple) else 0, wrong)
        for wrong in NEVER + ((), DEEDS, (0,), (0, ("a", (0,))), (0, ("a", (0,)), (), ()), [0, ("a", (0,)), ()],
                              (3, ("a", (0,)), ()), (-1, ("a", (0,)), ()), (True, ("a", (0,)), ()),
                              (None, ("a", (0,)), ()), ("0", ("a", (0,)), ()), (0, ("a", (0,)), []),
                              (0, ("a", (0,)), (("a", (0,)),)), (0, ("a", (0,)), (("b", (0, 0)), ("a", (1,)))),
                              (0, ("a", (0,)), (("a", (1,)),) * 13), (0, ("a", (0,)), (("c", (0,)),)),
                              (0, ("a", (1,)), ()), (0, ("b", (0, 0)), ()), (0, ("c", (0,)), ())):
            self.refuses_history(0, (wrong,))
            self.refuses_history(0, (wrong, None))
            self.refuses_history(1, ((0, ("a", (0,)), ()), wrong))
        for wrong in NO_POINTS:
            self.refuses_history(0, ((0, wrong, ()),))
            self.refuses_history(1, (DEEDS[0], (0, ("a", (0,)), (wrong,))))

    def test_whose_work_is_not_there(self):
        take = (1, ("a", (0,)), ())
        self.alike(works_behind(CREW, (take, take)), ((("b", (1, 1)), 1),))
        self.refuses_history(2, (take, take, take))
        # What is put later is not there yet.
        self.refuses_history(0, (DEEDS[1], DEEDS[0]))
        self.refuses_history(1, (DEEDS[0], DEEDS[2], DEEDS[1]))
        self.alike(works_behind(CREW, (DEEDS[0],) + (DEEDS[1],) * 2), ((("a", (0,)), 1), (("b", (1, 1)), 1),
                                                                     (("c", (0,)), 2)))
        self.refuses_history(3, (DEEDS[0],) + (DEEDS[1],) * 3)

    def test_400_deeds_and_401(self):
        deeds = tuple((0, ("a", (at,)), (("a", (at + 1,)),)) for at in range(401))
        self.alike(works_behind(STEPS, deeds[:400]), ((("a", (400,)), 1), (("a", (1000,)), 1)))
        self.alike(whole_cuts(STEPS, deeds[:400]), 401)
        self.refuses(BadHistory, None, works_behind, STEPS, deeds)
        self.refuses(BadHistory, None, works_behind, STEPS, (None,) * 401)
        self.refuses(BadHistory, 0, works_behind, STEPS, (None,) * 400)
        self.refuses_history(None, (None,) * 401)

    def test_what_is_no_cut_is_refused(self):
        for wrong in NEVER + ((), (0, 0), (0, 0, 0, 0), [0, 0, 0], (3, 0, 0), (0, 1, 0), (0, 0, 2), (-1, 0, 0),
                              (True, 0, 0), (0, False, 0), (0, 0, None), (0, 0, "0"), ((0,), 0, 0), "000",
                              ((0, 0, 0),), (0, 0, 10 ** 39), {0: 0, 1: 0, 2: 0}):
            for function, rest in self.functions():
                self.refuses(BadCut, wrong, function, CREW, DEEDS, wrong, *rest)
            for function in (cut_front, sharp_front):
                self.refuses(BadCut, wrong, function, CREW, DEEDS, wrong, None)
        for wrong in ((161, 0), (0, 125), None, (0, 0, 0)):
            self.refuses(BadCut, wrong, fewest_more, STEPS, two_rows(160, 124), wrong)
        for right in itertools.product(range(3), range(1), range(2)):
            self.alike(type(cut_numbers(CREW, DEEDS, right)), tuple)

    def test_what_is_no_name_is_refused(self):
        for wrong in NO_NAMES:
            for function in (cut_front, sharp_front):
                self.refuses(BadName, wrong, function, CREW, DEEDS, (0, 0, 1), wrong)

    def test_all_that_is_told_is_about_times_of_the_place(self):
        for place, depth in CREW.plan.places:
            for cut in itertools.product(range(3), range(1), range(2)):
                for far in all_times(depth, 3):
                    front = cut_front(CREW, DEEDS, cut, place)
                    comes = any(could_come(CREW.plan, point, (place, far))[0] == "way"
                                for point, number in cut_numbers(CREW, DEEDS, cut) if number > 0)
                    self.assertEqual(any(is_before(time, far) for time in front), comes)
