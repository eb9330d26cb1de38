"""Shifts (section 4)."""

import itertools
import random

from support import NEVER, Case, all_shifts, all_times
from timesover.errors import BadDepth, BadNumber, BadShift, BadShifts, BadTime, Below
from timesover.shifts import does_lead, is_below, joined_shift, kept_shift, least_shifts, parting_time, shifted
from timesover.times import is_before

INTO, ROUND, OUT = (("+", 0), ("=", 0)), (("+", 0), ("+", 1)), (("+", 2),)
NO_WORDS = (None, "+", "+0", (), ("+",), ("+", 0, 0), ("+", True), ("=", False), ("+", -1), ("=", None), ("=", "0"),
            ("-", 0), ("", 0), (0, "+"), (None, 0), (["+"], 0), ["+", 0], ("+", (0,)), {"+": 0})
NO_SHIFTS = NEVER + ((), (("+", 0),) * 5, ("+", 0)) + tuple((word,) for word in NO_WORDS)
NO_SHIFTS += tuple((("=", 1), word) for word in NO_WORDS) + ([("+", 0)], ((("+", 0),),))
NO_DEPTHS = (None, True, False, 0, 5, -1, 10 ** 30, "1", "", (1,), [1], (), {}, ((1,),))
SHIFTS = [shift for words in (1, 2) for shift in all_shifts(words, (0, 1, 3))]


def needed_depth(shift):
    """The least depth from which a shift leads, at least 1."""
    return max([1] + [at + 1 for at, word in enumerate(shift) if word[0] == "+"])


class Kept(Case):

    def test_a_word_for_each_part(self):
        self.alike([kept_shift(depth) for depth in (1, 2, 3, 4)], [(("+", 0),) * depth for depth in (1, 2, 3, 4)])
        self.alike(kept_shift(depth=4), (("+", 0),) * 4)

    def test_what_is_no_depth_is_refused(self):
        for wrong in NO_DEPTHS:
            self.refuses(BadNumber, wrong, kept_shift, wrong)


class Lead(Case):

    def test_each_raising_word_has_a_part(self):
        for shift in SHIFTS:
            for depth in (1, 2, 3, 4):
                self.alike(does_lead(shift, depth), depth >= needed_depth(shift))
        self.alike([does_lead((("=", 0),) * 4, 1), does_lead((("=", 0),) * 3 + (("+", 0),), 3)], [True, False])
        self.alike([does_lead((("=", 0),) * 3 + (("+", 0),), 4), does_lead((("+", 9),), 4)], [True, True])
        self.alike(does_lead(depth=1, shift=INTO), True)

    def test_what_is_no_shift_or_no_depth_is_refused(self):
        for wrong in NO_SHIFTS:
            self.refuses(BadShift, wrong, does_lead, wrong, 1)
            self.refuses(BadShift, wrong, does_lead, wrong, True)
        for wrong in NO_DEPTHS:
            self.refuses(BadNumber, wrong, does_lead, INTO, wrong)


class Shifted(Case):

    def test_each_word_makes_a_part(self):
        self.alike(shifted((("+", 1), ("=", 7), ("+", 0), ("=", 0)), (1, 2, 3)), (2, 7, 3, 0))
        self.alike(shifted((("+", 10 ** 9),), (10 ** 39, 1, 2, 3)), (10 ** 39 + 10 ** 9,))
        self.alike(shifted((("=", 0),), (5, 5)), (0,))
        self.alike(shifted(time=(5,), shift=INTO), (5, 0))

    def test_a_shift_that_does_not_lead_from_there(self):
        self.refuses(BadDepth, 1, shifted, ROUND, (5,))
        self.refuses(BadDepth, 3, shifted, (("+", 0),) * 4, (5, 5, 5))

    def test_what_is_no_shift_or_no_time_is_refused(self):
        for wrong in NO_SHIFTS:
            self.refuses(BadShift, wrong, shifted, wrong, (0,))
            self.refuses(BadShift, wrong, shifted, wrong, (True,))
        for wrong in NEVER + ((), (0,) * 5, (0, True)):
            self.refuses(BadTime, wrong, shifted, ROUND, wrong)

    def test_a_later_time_stays_later(self):
        for shift in SHIFTS:
            for one, other in itertools.product(all_times(needed_depth(shift), 3), repeat=2):
                if is_before(one, other):
                    self.assertTrue(is_before(shifted(shift, one), shifted(shift, other)))


class Joined(Case):

    def test_it_makes_what_both_make_one_after_the_other(self):
        for one, other in itertools.product(SHIFTS, repeat=2):
            if does_lead(other, len(one)):
                both = joined_shift(one, other)
                for time in all_times(needed_depth(one), 3):
                    self.alike(shifted(both, time), shifted(other, shifted(one, time)))

    def test_word_by_word(self):
        one = (("+", 1), ("=", 2), ("+", 3), ("=", 4))
        self.alike(joined_shift(one, (("+", 5), ("+", 6), ("=", 7))), (("+", 6), ("=", 8), ("=", 7)))
        self.alike(joined_shift((("=", 1),), (("+", 1), ("=", 0), ("=", 9), ("=", 2))),
                   (("=", 2), ("=", 0), ("=", 9), ("=", 2)))
        self.alike(joined_shift(other=OUT, one=INTO), (("+", 2),))

    def test_what_cannot_be_joined_is_refused(self):
        self.refuses(BadDepth, 1, joined_shift, OUT, ROUND)
        self.refuses(BadDepth, 3, joined_shift, (("=", 0),) * 3, (("+", 0),) * 4)

    def test_what_is_no_shift_is_refused(self):
        for wrong in NO_SHIFTS:
            self.refuses(BadShift, wrong, joined_shift, wrong, ROUND)
            self.refuses(BadShift, wrong, joined_shift, OUT, wrong)
            self.refuses(BadShift, wrong, joined_shift, wrong, [])


class BelowOther(Case):

    def test_exactly_if_what_it_makes_is_never_later(self):
        for one, other in itertools.product(SHIFTS, repeat=2):
            depth = max(needed_depth(one), needed_depth(other))
            wanted = all(is_before(shifted(one, time), shifted(other, time)) for time in all_times(depth, 5))
            self.alike(is_below(one, other), wanted)

    def test_an_order(self):
        for one, other in itertools.product(SHIFTS, repeat=2):
            self.assertTrue(is_below(one, one))
            if one != other:
                self.assertFalse(is_below(one, other) and is_below(other, one))
        short = all_shifts(1, (0, 1)) + all_shifts(2, (0, 1))
        for one, other, third in itertools.product(short, repeat=3):
            if is_below(one, other) and is_below(other, third):
                self.assertTrue(is_below(one, third))

    def test_unlike_numbers_of_words(self):
        self.alike([is_below(OUT, ROUND), is_below(INTO, (("+", 0),)), is_below((("=", 0),), INTO)], [False] * 3)

    def test_each_of_four_words_counts(self):
        self.alike(is_below((("+", 1),) * 4, (("+", 1),) * 4), True)
        for at in range(4):
            greater = (("+", 1),) * at + (("+", 2),) + (("+", 1),) * (3 - at)
            fixed = (("+", 1),) * at + (("=", 1),) + (("+", 1),) * (3 - at)
            self.alike([is_below((("+", 1),) * 4, greater), is_below(greater, (("+", 1),) * 4)], [True, False])
            self.alike([is_below((("+", 1),) * 4, fixed), is_below(fixed, (("+", 1),) * 4)], [False, True])
        self.alike(is_below(other=(("+", 1),), one=(("=", 1),)), True)

    def test_what_is_no_shift_is_refused(self):
        for wrong in NO_SHIFTS:
            self.refuses(BadShift, wrong, is_below, wrong, ROUND)
            self.refuses(BadShift, wrong, is_below, ROUND, wrong)
            self.refuses(BadShift, wrong, is_below, wrong, None)


class Least(Case):

    def test_what_no_unlike_one_is_below(self):
        rng = random.Random(4)
        for many in range(60):
            words = rng.choice((1, 2))
            shifts = tuple(rng.choice(all_shifts(words, (0, 1, 2, 3))) for _ in range(many % 12))
            wanted = sorted({shift for shift in shifts
                             if not [far for far in shifts if far != shift and is_below(far, shift)]})
            self.alike(least_shifts(shifts), tuple(wanted))

    def test_ascending_as_python_sorts(self):
        fixed, raised = (("=", 5), ("=", 0)), (("+", 6), ("+", 0))
        self.alike(least_shifts((fixed, raised, fixed, (("+", 0), ("=", 10)), (("+", 0), ("=", 9)))),
                   ((("+", 0), ("=", 9)), fixed))
        self.alike(least_shifts(((("=", 2),), (("+", 1),))), ((("+", 1),), (("=", 2),)))

    def test_it_may_be_empty(self):
        self.alike(least_shifts(shifts=()), ())

    def test_what_are_no_shifts_with_as_many_words_is_refused(self):
        for wrong in NEVER:
            self.refuses(BadShifts, wrong, least_shifts, wrong)
        for wrong in NO_SHIFTS:
            self.refuses(BadShifts, (OUT, wrong), least_shifts, (OUT, wrong))
            self.refuses(BadShifts, (wrong, OUT), least_shifts, (wrong, OUT))
        for wrong in ((OUT, ROUND), (ROUND, OUT), [OUT], OUT, (OUT, (OUT,))):
            self.refuses(BadShifts, wrong, least_shifts, wrong)


class Parting(Case):

    def test_none_of_the_others_makes_what_is_before(self):
        rng = random.Random(5)
        for words, depth in itertools.product((1, 2, 3), (1, 2, 3, 4)):
            known = [shift for shift in all_shifts(words, (0, 1)) if does_lead(shift, depth)]
            for _ in range(12):
                shift = rng.choice(known)
                others = [other for other in rng.sample(known, rng.randrange(len(known))) if not is_below(other, shift)]
                numbers = [number for words_of in [shift, *others] for _, number in words_of]
                time = tuple(max(numbers) + 1 if at < words and shift[at][0] == "=" else 0 for at in range(depth))
                self.alike(parting_time(depth, shift, tuple(others)), time)
                for other in others:
                    self.assertFalse(is_before(shifted(other, time), shifted(shift, time)))

    def test_numbers_of_all_words_count(self):
        self.alike(parting_time(2, (("=", 4),), ((("+", 9),), (("=", 5),))), (10, 0))
        self.alike(parting_time(2, (("=", 0), ("+", 30)), ()), (31, 0))
        self.alike(parting_time(others=(), shift=(("+", 3), ("=", 1)), depth=4), (0, 4, 0, 0))
        self.alike(parting_time(1, (("=", 1), ("=", 2), ("=", 3)), ()), (4,))
        self.alike(parting_time(4, (("+", 1),) * 4, ((("=", 2),) + (("+", 1),) * 3,)), (0, 0, 0, 0))

    def test_the_first_one_that_is_below_is_told(self):
        shift, below, last = (("+", 3),), (("+", 2),), (("=", 1),)
        self.refuses(Below, below, parting_time, 1, shift, ((("+", 4),), below, last))
        self.refuses(Below, last, parting_time, 1, shift, ((("+", 4),), last, below))
        self.refuses(Below, shift, parting_time, 1, shift, (shift,))

    def test_what_is_wrong_is_refused_in_the_order_of_the_parameters(self):
        for wrong in NO_DEPTHS:
            self.refuses(BadNumber, wrong, parting_time, wrong, OUT, ())
            self.refuses(BadNumber, wrong, parting_time, wrong, None, None)
        for wrong in NO_SHIFTS + (ROUND,):
            self.refuses(BadShift, wrong, parting_time, 1, wrong, ())
            self.refuses(BadShift, wrong, parting_time, 1, wrong, (None,))
        for wrong in NEVER:
            self.refuses(BadShifts, wrong, parting_time, 1, OUT, wrong)
        for wrong in NO_SHIFTS + (INTO,):
            self.refuses(BadShifts, (OUT, wrong), parting_time, 1, OUT, (OUT, wrong))
        self.refuses(BadShifts, (ROUND,), parting_time, 1, INTO, (ROUND,))
        self.refuses(BadShifts, (OUT, ROUND), parting_time, 2, OUT, (OUT, ROUND))
