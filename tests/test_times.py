"""Times (section 4) and what section 2 says of integers in them."""

from support import NEVER, Case, all_times
from timesover.errors import BadDepth, BadTime, BadTimes
from timesover.times import common_time, is_before, least_times

GREAT = 10 ** 39
NO_TIMES = NEVER + ((), (0, 0, 0, 0, 0), (0, True), (0, -1), (0, None), (0, "0"), ((0,),), [0, 0], (0, (0,)), ("0",))
TIMES = [time for depth in (1, 2, 3) for time in all_times(depth, 3)] + [(0, 1, 2, 3), (GREAT, 0, 0, 0)]


class Before(Case):

    def test_each_part_is_at_most_the_same_part(self):
        for one in TIMES:
            for other in TIMES:
                wanted = len(one) == len(other) and not [at for at in range(len(one)) if one[at] > other[at]]
                self.alike(is_before(one, other), wanted)

    def test_neither_may_be_before_the_other(self):
        self.alike([is_before((1, 2), (2, 1)), is_before((2, 1), (1, 2))], [False, False])

    def test_times_of_unlike_depths_are_never_before(self):
        self.alike([is_before((0,), (0, 0)), is_before((0, 0), (0,)), is_before((1, 2, 3), (1, 2, 3, 4))], [False] * 3)

    def test_one_to_four_parts_and_great_ones(self):
        self.alike(is_before((0, 0, 0, GREAT), (0, 0, 0, GREAT)), True)
        self.alike(is_before((0, 0, 0, GREAT), (9, 9, 9, GREAT - 1)), False)

    def test_what_is_no_time_is_refused(self):
        for wrong in NO_TIMES:
            self.refuses(BadTime, wrong, is_before, wrong, (0,))
            self.refuses(BadTime, wrong, is_before, (0,), wrong)
            self.refuses(BadTime, wrong, is_before, wrong, [1])

    def test_arguments_by_name(self):
        self.alike(is_before(other=(1,), one=(2,)), False)
        self.refuses(BadTime, (True,), is_before, other=None, one=(True,))


class Least(Case):

    def test_what_no_unlike_one_is_before(self):
        for many in range(40):
            times = tuple((many * at % 7, many * at * at % 5, at % 4) for at in range(many % 9))
            wanted = sorted({time for time in times
                             if not [far for far in times if far != time and is_before(far, time)]})
            self.alike(least_times(times), tuple(wanted))

    def test_each_once_and_ascending(self):
        self.alike(least_times(((2, 0), (0, 2), (1, 1), (0, 2), (2, 0))), ((0, 2), (1, 1), (2, 0)))
        self.alike(least_times(((10,), (9,), (9,))), ((9,),))

    def test_it_may_be_empty(self):
        self.alike(least_times(()), ())

    def test_of_four_parts(self):
        self.alike(least_times(((0, 0, 0, 1), (0, 0, 1, 0), (0, 0, 1, 1))), ((0, 0, 0, 1), (0, 0, 1, 0)))

    def test_what_are_no_times_of_one_depth_is_refused(self):
        for wrong in NEVER:
            self.refuses(BadTimes, wrong, least_times, wrong)
        for wrong in NO_TIMES:
            if wrong != ():
                self.refuses(BadTimes, ((0,), wrong), least_times, ((0,), wrong))
        for wrong in ((1, 2), (((1, 2),),), ((1,), (1, 2)), ((1, 2), (1,)), [(1,)], ((1,), [1]), ((),),
                      ((1,), (True,))):
            self.refuses(BadTimes, wrong, least_times, wrong)

    def test_arguments_by_name(self):
        self.alike(least_times(times=((1,),)), ((1,),))


class Common(Case):

    def test_the_least_time_that_both_are_before(self):
        for depth in (1, 2):
            for one in all_times(depth, 3):
                for other in all_times(depth, 3):
                    told = common_time(one, other)
                    for far in all_times(depth, 4):
                        self.assertEqual(is_before(told, far), is_before(one, far) and is_before(other, far))

    def test_the_greater_parts(self):
        self.alike(common_time((1, 9, 0, GREAT), (2, 8, 0, 1)), (2, 9, 0, GREAT))

    def test_another_depth_is_refused(self):
        self.refuses(BadDepth, 2, common_time, (0,), (0, 0))
        self.refuses(BadDepth, 1, common_time, (0, 0), (0,))
        self.refuses(BadDepth, 4, common_time, (0, 0, 0), (0, 0, 0, 0))

    def test_what_is_no_time_is_refused_first(self):
        for wrong in NO_TIMES:
            self.refuses(BadTime, wrong, common_time, wrong, (0, 0))
            self.refuses(BadTime, wrong, common_time, (0,), wrong)
            self.refuses(BadTime, wrong, common_time, wrong, (-2,))

    def test_arguments_by_name(self):
        self.alike(common_time(other=(1, 4), one=(2, 3)), (2, 4))
        self.refuses(BadDepth, 1, common_time, other=(1,), one=(2, 3))
