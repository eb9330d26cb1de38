"""Yards (section 16)."""

import collections
import contextlib
from unittest import mock

from beside import MORE_KINDS, Beside, do_any_step, played_yard, shown
from late import late_books
from support import NEVER, NO_NAMES, NO_POINTS, NO_TIMES_AT_B, Case, Picks, sound_plans
from timesover import yards
from timesover.books import heard
from timesover.crews import Crew
from timesover.errors import (
    BadHand, BadName, BadNumber, BadPoint, BadPut, BadStep, BadTime, HasWork, NoLetter, NoWork,
)
from timesover.plans import Plan
from timesover.yards import Yard
from worlds import ALL_KINDS, some_crew

ROWS = ["place a 1", "place b 2", "place c 1", "line a b +0 =0", "line b b +0 +1", "line b c +0", "line c a +1"]
PLAN = Plan("\n".join(ROWS))
CREW = Crew(PLAN, "hands 3\nwork 0 a 0\nwork 2 b 1 1")
# Of a yard in which the hands 0, 1 and 2 are there, and no other one ever was.
NO_HANDS = tuple(value for value in NEVER if value is True or value is False or value not in (0, 1, 2)) + (
    (), (0,), [0], "0", 3, 9, 10, -2)
STEPS = {"deed": 3, "give": 3, "arrive": 2, "beat": 1, "hear": 2, "again": 3, "catch_up": 1, "come": 2, "fall": 1,
         "go": 1, "settle": 0}


def worlds(case, seed, many, **limits):
    """Worlds of crews by a rule with yards beside them, each with the picks of its script."""
    picks = Picks(seed)
    plans = sound_plans(seed, many, **limits) + [PLAN] * (many // 4)
    return [(Beside(case, some_crew(picks, plan)), Picks(seed * 1000 + at)) for at, plan in enumerate(plans)]


class Scripts(Case):

    def play_many(self, seed, many):
        """Plays many scripts; returns how often each kind of step was done."""
        seen = collections.Counter()
        for world, picks in worlds(self, seed, many, most_lines=5):
            for _ in range(picks.choice((15, 40, 70))):
                do_any_step(world, picks)
            if world.hands:
                world.settle()
            seen += world.seen
        return seen

    def test_behind_each_step(self):
        seen = self.play_many(170, 60)
        for kind in {*ALL_KINDS, *MORE_KINDS, "lacking", "exact", "elder again", "hears anew", "beside a newcomer"}:
            self.assertGreater(seen[kind], 5, kind)

    def test_with_books_that_tell_late(self):
        with late_books():
            seen = self.play_many(171, 50)
        for kind in {*ALL_KINDS, *MORE_KINDS, "lacking", "exact", "hears anew"}:
            self.assertGreater(seen[kind], 5, kind)

    def test_goes_with_what_is_not_told(self):
        with late_books():
            world = Beside(self, CREW)
            world.deed(2, ("b", (1, 1)), [(1, ("c", (4,)))])
            world.go(2)
            self.alike(world.seen["goes with what is not told"], 1)
            self.alike(world.yard.unheard(0), ((2, ("b", (1, 1)), (("c", (4,)),)),))
            world.hear(0, 2)
            self.alike(world.yard.unheard(0), ())
            self.refuses(BadNumber, 1, world.yard.again, 0, 2, 1)
            world.again(0, 2, 0)

    def test_comes_beside_a_hand_that_has_not_told_all(self):
        with late_books():
            world = Beside(self, CREW)
            world.deed(0, ("a", (0,)), [])
            self.alike(world.yard.unheard(1), ((0, ("a", (0,)), ()),))
            world.come(0, 7)
            self.alike([world.yard.unheard(7), world.yard.counts(7)], [(), ((("b", (1, 1)), 1),)])
            world.again(7, 0, 0)
            world.hear(1, 0)

    def test_which_books_are_led_on_and_in_which_sequence(self):
        """As far as the books of the package do not tell: their functions are watched."""
        world = Beside(self, CREW)
        for hand, other in ((2, 9), (0, 7), (1, 8)):
            world.come(hand, other)
        world.deed(2, ("b", (1, 1)), [(9, ("b", (1, 2)))])
        world.deed(0, ("a", (0,)), [(0, ("a", (1,))), (7, ("a", (2,)))])
        world.deed(0, ("a", (1,)), [])
        for letter in list(world.letters):
            world.arrive(letter)
            world.deed(*letter, [])
        yard = world.yard
        with mock.patch("timesover.yards.heard", side_effect=heard) as listens:
            yard.catch_up(8)
            self.alike([call.args[2] for call in listens.call_args_list], [0, 0, 2, 7, 9])
            yard.again(8, 2, 0)
            self.alike([call.args[2] for call in listens.call_args_list][5:], [2])
            yard.hear(8, 0)
            self.alike(listens.call_count, 6)
            yard.hear(9, 0)
            self.alike([call.args[2] for call in listens.call_args_list][6:], [0])

    def test_one_beat_more_behind_one_that_told_something(self):
        for late, wanted in ((True, 2), (False, 1)):
            with late_books() if late else contextlib.nullcontext():
                yard = Yard(CREW)
                yard.deed(0, ("a", (0,)), ())
                with mock.patch("timesover.yards.beat", side_effect=yards.beat) as beats:
                    yard.go(0)
                self.alike(beats.call_count, wanted)

    def test_a_copy_goes_on_as_the_yard_does(self):
        for books in (contextlib.nullcontext, late_books):
            with books():
                for world, picks in worlds(self, 175, 16):
                    for _ in range(30):
                        do_any_step(world, picks)
                    copies = [world.yard.copy() for _ in range(3)]
                    for hand in world.yard.hands:
                        for yard in (world.yard, *copies[:2]):
                            yard.fall(hand)
                        copies[2].step(("fall", hand))
                    for yard in copies:
                        self.alike(shown(yard), shown(world.yard))
                        yard.settle()
                    world.yard.settle()
                    for yard in copies:
                        self.alike(shown(yard), shown(world.yard))

    def test_a_copy_goes_on_by_itself(self):
        for world, picks in worlds(self, 172, 30):
            for _ in range(25):
                do_any_step(world, picks)
            copy, before = world.yard.copy(), shown(world.yard)
            self.alike(shown(copy), before)
            for _ in range(15):
                do_any_step(world, picks)
            self.alike(shown(copy), before)
            behind = shown(world.yard)
            for hand, point in copy.works:
                copy.deed(hand, point, ())
            for hand in copy.hands:
                copy.beat(hand)
                copy.catch_up(hand)
                copy.fall(hand)
            for number in set(range(10)) - set(world.tellings):
                copy.come(copy.hands[0], number)
            copy.settle()
            self.alike(shown(world.yard), behind)

    def test_the_same_steps_in_a_fresh_yard_stand_alike(self):
        for world, picks in worlds(self, 173, 30):
            for _ in range(40):
                do_any_step(world, picks)
            yard = Yard(Crew(Plan(world.plan.text), world.crew.text))
            for step in world.yard.steps:
                self.assertIsNone(yard.step(step))
            self.alike(shown(yard), shown(world.yard))
            # What is asked changes nothing: asked again it is the same.
            self.alike(shown(yard), shown(yard))

    def test_steps_without_a_world(self):
        picks = Picks(174)
        for plan in sound_plans(174, 25) + [PLAN] * 5:
            yard = played_yard(picks, some_crew(picks, plan), 40)
            again = Yard(yard.crew)
            for step in yard.steps:
                again.step(step)
            self.alike(shown(again), shown(yard))
            for hand in yard.hands:
                for place, _ in plan.places:
                    for time in yard.true_front(place):
                        self.alike(yard.over(hand, place, time), False)
            yard.settle()
            for hand in yard.hands:
                self.alike(yard.unheard(hand), ())
                self.alike([yard.front(hand, place) for place, _ in plan.places],
                           [yard.true_front(place) for place, _ in plan.places])


class Cases(Case):

    def test_the_beginning(self):
        yard = Yard(crew=CREW)
        self.alike([yard.crew, yard.hands, yard.letters, yard.steps, len(yard)], [CREW, (0, 1, 2), (), (), 0])
        self.alike(yard.works, ((0, ("a", (0,))), (2, ("b", (1, 1)))))
        self.alike([yard.counts(hand) for hand in yard.hands], [((("a", (0,)), 1), (("b", (1, 1)), 1))] * 3)
        self.alike([yard.front(1, "c"), yard.true_front("c"), yard.unheard(2), yard.lacks(2)],
                   [((0,),), ((0,),), (), ()])

    def test_several_equal_ones_each(self):
        crew = Crew(PLAN, "hands 2\nwork 1 a 5\nwork 0 a 5\nwork 1 a 5\nwork 1 a 3")
        yard = Yard(crew)
        self.alike(yard.works, ((0, ("a", (5,))), (1, ("a", (3,))), (1, ("a", (5,))), (1, ("a", (5,)))))
        for _ in range(2):
            yard.give(1, ("a", (5,)), 0)
        self.alike([yard.works, yard.letters], [((0, ("a", (5,))), (1, ("a", (3,)))), ((0, ("a", (5,))),) * 2])
        self.refuses(NoWork, ("a", (5,)), yard.give, 1, ("a", (5,)), 0)
        yard.arrive(0, ("a", (5,)))
        self.alike([yard.works, yard.letters], [((0, ("a", (5,))), (0, ("a", (5,))), (1, ("a", (3,)))),
                                                ((0, ("a", (5,))),)])
        for _ in range(2):
            yard.deed(0, ("a", (5,)), ((1, ("a", (6,))), (1, ("a", (6,)))))
        self.alike([yard.letters.count((1, ("a", (6,)))), yard.unheard(1)],
                   [4, ((0, ("a", (5,)), (("a", (6,)), ("a", (6,)))),) * 2])

    def test_what_is_put_in_any_sequence(self):
        yard = Yard(CREW)
        put = ((2, ("b", (7, 7))), (0, ("a", (3,))), (1, ("b", (0, 0))), (0, ("a", (1,))))
        yard.deed(put=put, taken=("a", (0,)), hand=0)
        self.alike(yard.steps, (("deed", 0, ("a", (0,)), put),))
        self.alike(yard.works, ((0, ("a", (1,))), (0, ("a", (3,))), (2, ("b", (1, 1)))))
        self.alike(yard.letters, ((1, ("b", (0, 0))), (2, ("b", (7, 7)))))
        points = (("a", (1,)), ("a", (3,)), ("b", (0, 0)), ("b", (7, 7)))
        self.alike(yard.unheard(hand=2), ((0, ("a", (0,)), points),))

    def test_hears_where_nothing_is_told(self):
        yard = Yard(CREW)
        before = shown(yard)
        yard.hear(hand=1, other=0)
        yard.catch_up(hand=1)
        self.alike(yard.steps, (("hear", 1, 0), ("catch_up", 1)))
        self.alike([shown(yard)[1:4], shown(yard)[6:]], [before[1:4], before[6:]])
        yard.deed(0, ("a", (0,)), ())
        yard.beat(0)
        for _ in range(3):
            yard.hear(1, 0)
            self.alike([yard.unheard(1), yard.counts(1)], [(), ((("b", (1, 1)), 1),)])

    def test_again(self):
        yard = Yard(CREW)
        self.refuses(BadNumber, 0, yard.again, 1, 0, 0)
        yard.deed(0, ("a", (0,)), ((0, ("a", (1,))),))
        yard.beat(0)
        self.refuses(BadNumber, 0, yard.again, 1, 0, 0)
        yard.hear(1, 0)
        before = yard.front(1, "a")
        yard.again(number=0, other=0, hand=1)
        self.alike([yard.front(1, "a"), yard.steps[-1]], [before, ("again", 1, 0, 0)])
        for wrong in (1, -1, True, None, "0", (0,), 10 ** 39):
            self.refuses(BadNumber, wrong, yard.again, 1, 0, wrong)
        # What it has heard since its last own step is not heard yet behind a fall.
        yard.fall(hand=1)
        self.refuses(BadNumber, 0, yard.again, 1, 0, 0)
        self.alike(yard.unheard(1), ((0, ("a", (0,)), (("a", (1,)),)),))

    def test_again_of_what_the_hand_beside_it_had_heard_or_told(self):
        yard = Yard(CREW)
        yard.deed(0, ("a", (0,)), ())
        yard.beat(0)
        yard.deed(2, ("b", (1, 1)), ())
        yard.beat(2)
        yard.hear(1, 0)
        yard.come(1, 5)
        yard.come(2, 6)
        yard.come(hand=5, number=9)
        for hand, other in ((5, 0), (9, 0), (6, 2)):
            yard.again(hand, other, 0)
            self.refuses(BadNumber, 1, yard.again, hand, other, 1)
        for hand, other in ((5, 2), (9, 2), (6, 0), (5, 1), (9, 5), (6, 9)):
            self.refuses(BadNumber, 0, yard.again, hand, other, 0)
        self.alike([yard.counts(9), yard.counts(6)], [((("b", (1, 1)), 1),), ((("a", (0,)), 1),)])
        self.alike(yard.unheard(9), ((2, ("b", (1, 1)), ()),))

    def test_comes_beside_a_newcomer_and_falls_right_behind_coming(self):
        yard = Yard(CREW)
        yard.come(1, 3)
        yard.deed(0, ("a", (0,)), ())
        yard.beat(0)
        yard.hear(3, 0)
        yard.come(3, 4)
        yard.fall(4)
        self.alike([yard.unheard(4), yard.unheard(3), len(yard.unheard(1))], [(), (), 1])
        # Coming was an own step of 3, too: it does a beat there.
        yard.fall(3)
        self.alike(yard.unheard(3), ())
        yard.deed(2, ("b", (1, 1)), ())
        yard.beat(2)
        yard.catch_up(4)
        yard.fall(4)
        self.alike(yard.unheard(4), ((2, ("b", (1, 1)), ()),))

    def test_a_fall_goes_back_to_the_last_own_step(self):
        yard = Yard(CREW)
        yard.fall(1)
        yard.deed(0, ("a", (0,)), ((1, ("a", (1,))),))
        yard.beat(0)
        yard.catch_up(1)
        yard.fall(1)
        self.alike(len(yard.unheard(1)), 1)
        for own in (("beat", 1), ("settle",), ("come", 1, 8)):
            yard.catch_up(1)
            yard.step(own)
            yard.fall(1)
            self.alike(yard.unheard(1), ())
        yard.deed(2, ("b", (1, 1)), ())
        yard.beat(2)
        yard.arrive(1, ("a", (1,)))
        yard.catch_up(1)
        yard.deed(1, ("a", (1,)), ())
        yard.fall(1)
        self.alike([yard.unheard(1), yard.counts(1)], [(), ()])
        self.alike(yard.works, ())

    def test_what_is_heard_in_settle_is_behind_the_beat_of_settle(self):
        yard = Yard(CREW)
        yard.deed(0, ("a", (0,)), ())
        yard.settle()
        self.alike(yard.unheard(1), ())
        yard.fall(1)
        self.alike(yard.unheard(1), ((0, ("a", (0,)), ()),))

    def test_hands_0_to_9(self):
        yard = Yard(Crew(PLAN, "hands 6"))
        for number in (9, 7, 6, 8):
            yard.come(yard.hands[-1], number)
        self.alike(yard.hands, tuple(range(10)))
        for number in (*range(-1, 12), None, True, "3"):
            self.refuses(BadNumber, number, yard.come, 0, number)
        yard.go(hand=3)
        # A number that was there once is not given again.
        self.refuses(BadNumber, 3, yard.come, 0, 3)
        self.alike(yard.hands, (0, 1, 2, 4, 5, 6, 7, 8, 9))

    def test_goes_and_is_heard_all_the_same(self):
        yard = Yard(CREW)
        self.refuses(HasWork, ("a", (0,)), yard.go, 0)
        yard.give(hand=0, point=("a", (0,)), other=1)
        self.refuses(HasWork, ("a", (0,)), yard.go, 1)
        self.refuses(HasWork, ("b", (1, 1)), yard.go, 2)
        yard.arrive(point=("a", (0,)), hand=1)
        yard.deed(1, ("a", (0,)), ((2, ("b", (0, 4))),))
        # The least one, whether it is held or under way.
        self.refuses(HasWork, ("b", (0, 4)), yard.go, 2)
        yard.go(1)
        self.alike([yard.hands, yard.unheard(0)], [(0, 2), ((1, ("a", (0,)), (("b", (0, 4)),)),)])
        for function in (yard.beat, yard.fall, yard.go, yard.counts, yard.lacks, yard.unheard, yard.catch_up):
            self.refuses(BadHand, 1, function, 1)
        self.refuses(BadHand, 1, yard.give, 2, ("b", (1, 1)), 1)
        self.refuses(BadPut, ((1, ("b", (1, 2))),), yard.deed, 2, ("b", (1, 1)), ((1, ("b", (1, 2))),))
        self.refuses(BadHand, 1, yard.hear, 1, 0)
        yard.hear(0, 1)
        yard.again(0, 1, 0)
        self.alike(yard.unheard(0), ())
        yard.go(0)
        yard.arrive(2, ("b", (0, 4)))
        yard.deed(2, ("b", (0, 4)), ())
        yard.deed(2, ("b", (1, 1)), ())
        yard.go(2)
        yard.settle()
        self.alike([yard.hands, yard.works, yard.letters, yard.true_front(place="b")], [(), (), (), ()])
        self.refuses(BadHand, 2, yard.beat, 2)

    def test_arguments_by_name(self):
        yard = Yard(CREW)
        yard.beat(hand=0)
        yard.step(value=("hear", 0, 2))
        self.alike(yard.front(place="b", hand=0), ((0, 0),))
        self.alike([yard.over(time=(5, 5), place="b", hand=0), yard.over(0, "a", (0,))], [False, False])
        self.alike([yard.counts(hand=1), yard.lacks(hand=1)], [((("a", (0,)), 1), (("b", (1, 1)), 1)), ()])
        self.alike(yard.steps, (("beat", 0), ("hear", 0, 2)))

    def test_numbers_of_forty_figures(self):
        late = 10 ** 39
        yard = Yard(CREW)
        yard.deed(0, ("a", (0,)), ((1, ("b", (late, late))),))
        yard.arrive(1, ("b", (late, late)))
        yard.deed(1, ("b", (late, late)), ((1, ("c", (late,))),))
        yard.deed(2, ("b", (1, 1)), ())
        yard.settle()
        self.alike([yard.front(0, "c"), yard.over(0, "c", (late - 1,))], [((late,),), True])


class Errors(Case):

    def setUp(self):
        self.yard = Yard(CREW)
        self.yard.deed(0, ("a", (0,)), ((0, ("a", (4,))), (1, ("b", (0, 0))), (2, ("b", (0, 0)))))
        self.yard.beat(0)
        self.yard.hear(1, 0)

    def refuses_unchanged(self, error, value, name, *arguments):
        """The method refuses this, as does step if it is a step, and the yard stands as it did."""
        before = shown(self.yard)
        self.refuses(error, value, getattr(self.yard, name), *arguments)
        if name in STEPS:
            self.refuses(error, value, self.yard.step, (name, *arguments))
        self.alike(shown(self.yard), before)

    def test_what_is_no_hand_that_is_there_is_refused(self):
        rests = {"deed": (("a", (4,)), ()), "give": (("a", (4,)), 1), "arrive": (("b", (0, 0)),), "hear": (0,),
                 "again": (0, 0), "come": (5,), "beat": (), "catch_up": (), "fall": (), "go": (), "counts": (),
                 "lacks": (), "unheard": (), "front": ("a",), "over": ("a", (0,))}
        for wrong in NO_HANDS:
            for name, rest in rests.items():
                self.refuses_unchanged(BadHand, wrong, name, wrong, *rest)
                self.refuses_unchanged(BadHand, wrong, name, wrong, *[None] * len(rest))

    def test_what_is_no_point_is_refused(self):
        for wrong in NO_POINTS:
            self.refuses_unchanged(BadPoint, wrong, "deed", 0, wrong, ())
            self.refuses_unchanged(BadPoint, wrong, "deed", 0, wrong, None)
            self.refuses_unchanged(BadPoint, wrong, "give", 0, wrong, 1)
            self.refuses_unchanged(BadPoint, wrong, "give", 0, wrong, None)
            self.refuses_unchanged(BadPoint, wrong, "arrive", 1, wrong)

    def test_where_no_work_is(self):
        for hand, point in ((0, ("a", (0,))), (0, ("b", (0, 0))), (1, ("a", (4,))), (1, ("b", (0, 0))),
                            (2, ("b", (0, 0))), (0, ("b", (1, 1))), (1, ("c", (10 ** 39,)))):
            self.refuses_unchanged(NoWork, point, "deed", hand, point, ())
            self.refuses_unchanged(NoWork, point, "deed", hand, point, None)
            for other in (0, 1, 2, None):
                self.refuses_unchanged(NoWork, point, "give", hand, point, other)
        for hand, point in ((0, ("a", (4,))), (0, ("b", (0, 0))), (2, ("b", (1, 1))), (1, ("b", (0, 1)))):
            self.refuses_unchanged(NoLetter, point, "arrive", hand, point)

    def test_what_cannot_be_put(self):
        right = (0, ("a", (5,)))
        for wrong in NEVER + (
            right, [right], (right,) * 13, (right, None), ((0, ("a", (4,))),), ((0, ("a", (3,))),), ((3, ("a", (5,))),),
            ((True, ("a", (5,))),), ((0, ("a", (True,))),), ((0, ["a", (5,)]),), ([0, ("a", (5,))],), (("a", (5,)),),
            ((0, ("b", (3, 9))),), ((0, ("c", (9,))),), ((0, ("a", (5,)), 0),), ((0,),), ((),), ((0, None),),
            ((-1, ("a", (5,))),), (right, (0, ("b", (4,)))), (("a", (5,), 0),), ((None, ("a", (5,))),),
        ):
            self.refuses_unchanged(BadPut, wrong, "deed", 0, ("a", (4,)), wrong)
        self.yard.deed(0, ("a", (4,)), (right,) * 12)
        self.yard.deed(0, ("a", (5,)), ())

    def test_to_whom_nothing_can_be_given(self):
        for wrong in NO_HANDS + (0,):
            self.refuses_unchanged(BadHand, wrong, "give", 0, ("a", (4,)), wrong)

    def test_of_whom_nothing_can_be_heard(self):
        for wrong in NO_HANDS + (1,):
            self.refuses_unchanged(BadHand, wrong, "hear", 1, wrong)
            self.refuses_unchanged(BadHand, wrong, "again", 1, wrong, 0)
            self.refuses_unchanged(BadHand, wrong, "again", 1, wrong, None)

    def test_what_is_no_number(self):
        for wrong in tuple(value for value in NEVER if value is False or value != 0) + ((), (0,), 10 ** 39):
            self.refuses_unchanged(BadNumber, wrong, "again", 1, 0, wrong)
            self.refuses_unchanged(BadNumber, wrong, "again", 2, 0, wrong)
        for wrong in tuple(value for value in NEVER if value != 5) + (0, 1, 2, 10, 11, (), (5,), "5"):
            self.refuses_unchanged(BadNumber, wrong, "come", 1, wrong)

    def test_what_is_no_step(self):
        wrongs = NEVER + ((), ("deed",), ("open", 0), ("Beat", 0), ("counts", 0), ("copy",), ("step", ("beat", 0)),
                          ["beat", 0], (["beat"], 0), (("beat",), 0), ("beat", 0, 0), ("settle", 0), "settle",
                          ("settle", None), ("beat ", 0), (None, 0), ("", 0), ("__len__",), ("crew",),
                          ("front", 0, "a"))
        for wrong in wrongs:
            self.refuses_unchanged(BadStep, wrong, "step", wrong)
        for word, many in STEPS.items():
            for parts in range(6):
                if parts != many:
                    self.refuses_unchanged(BadStep, (word,) + (0,) * parts, "step", (word,) + (0,) * parts)

    def test_names_and_times(self):
        for wrong in NO_NAMES:
            self.refuses_unchanged(BadName, wrong, "front", 0, wrong)
            self.refuses_unchanged(BadName, wrong, "over", 0, wrong, (0,))
            self.refuses_unchanged(BadName, wrong, "over", 0, wrong, None)
            self.refuses_unchanged(BadName, wrong, "true_front", wrong)
        for wrong in NO_TIMES_AT_B:
            self.refuses_unchanged(BadTime, wrong, "over", 0, "b", wrong)
