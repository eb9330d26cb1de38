"""Sound plans (section 7)."""

import itertools
import random

from support import NEVER, Case, all_shifts, all_times, all_ways, enough_lines, random_plan
from timesover.errors import BadName, BadShift, BadTrace, BadWay
from timesover.plans import Plan
from timesover.shifts import does_lead, shifted
from timesover.sound import led_trace, ring_time, shows_soundness, soundness, staying_lines, traces
from timesover.tables import could_come
from timesover.times import is_before
from timesover.ways import way_shift

TEXT = "place a 1\nplace b 2\nline a b +0 =0\nline b b +0 +1\nline b a "
FINE, BAD = Plan(TEXT + "+1"), Plan(TEXT + "+0")
TWICE = Plan("place a 1\nline a a +1\nline a a =3")
WORDS = ("set", "kept", "raised")
NO_NAMES = (None, True, 0, "", "A", "d", ("a",), ["a"], FINE, {}, ())


def trace_of(shift):
    """The trace of a way with this shift, by its definition."""
    return tuple("set" if sign == "=" else "raised" if number > 0 else "kept" for sign, number in shift)


def plans(seed, many, **limits):
    """So many plans at random, always the same ones."""
    rng = random.Random(seed)
    return [random_plan(rng, **limits) for _ in range(many)]


def ways_between(plan, one, other):
    """All ways of one line or more that can count, from one place to the other."""
    return [way for way, end in all_ways(plan, one, enough_lines(plan)) if end == other and way]


def does_stay(shift):
    """Whether no part is raised."""
    return "raised" not in trace_of(shift)


class Led(Case):

    def test_word_by_word(self):
        for trace in [trace for many in (1, 2) for trace in itertools.product(WORDS, repeat=many)]:
            for shift in [shift for many in (1, 2, 3) for shift in all_shifts(many, (0, 2))]:
                if not does_lead(shift, len(trace)):
                    self.refuses(BadShift, shift, led_trace, trace, shift)
                    continue
                wanted = tuple(
                    "set" if sign == "=" else "raised" if trace[at] == "kept" and number > 0 else trace[at]
                    for at, (sign, number) in enumerate(shift))
                self.alike(led_trace(trace, shift), wanted)

    def test_one_to_four_words(self):
        self.alike(led_trace(("kept", "raised", "set", "kept"), (("+", 1),) * 4), ("raised", "raised", "set", "raised"))
        self.alike(led_trace(shift=(("=", 0),) * 4, trace=("kept",)), ("set",) * 4)
        self.alike(led_trace(("kept",) * 4, (("+", 0),)), ("kept",))

    def test_the_trace_of_what_is_joined(self):
        for plan in plans(20, 30):
            for place, _ in plan.places:
                for way, end in all_ways(plan, place, 4):
                    for number, line in enumerate(plan.lines):
                        if way and line[0] == end:
                            shifts = way_shift(plan, place, way), way_shift(plan, place, way + (number,))
                            self.alike(led_trace(trace_of(shifts[0]), line[2]), trace_of(shifts[1]))

    def test_what_is_no_trace_is_refused_first(self):
        for wrong in NEVER + ((), ("kept",) * 5, ["kept"], "kept", ("kept", "Set"), ("kept", None), ("kept", ["set"]),
                              ("kept", ("set",)), ("lowered",), ("kept", True)):
            self.refuses(BadTrace, wrong, led_trace, wrong, (("=", 0),))
            self.refuses(BadTrace, wrong, led_trace, wrong, None)

    def test_what_is_no_shift_from_there_is_refused(self):
        for wrong in NEVER + ((), (("+", 0),) * 5, (("=", 0), ("+", 0)), (("+", True),), [("+", 0)]):
            self.refuses(BadShift, wrong, led_trace, ("kept",), wrong)


class Traces(Case):

    def test_those_of_all_ways_of_one_line_or_more(self):
        for plan in plans(21, 150, numbers=(0, 0, 0, 1)):
            for one, other in itertools.product([name for name, _ in plan.places], repeat=2):
                wanted = sorted({trace_of(way_shift(plan, one, way)) for way in ways_between(plan, one, other)})
                self.alike(traces(plan, one, other), tuple(wanted))

    def test_the_way_of_no_line_does_not_count(self):
        plan = Plan("place a 4\nplace b 1\nline a b +0")
        self.alike([traces(plan, "a", "a"), traces(plan, "b", "a"), traces(plan, other="b", one="a")],
                   [(), (), (("kept",),)])

    def test_depth_four(self):
        plan = Plan("place a 4\nline a a +0 +1 =0 +0\nline a a +0 +0 +0 =5")
        self.alike(traces(plan, "a", "a"), (
            ("kept", "kept", "kept", "set"), ("kept", "raised", "set", "kept"), ("kept", "raised", "set", "set")))

    def test_what_is_no_name_is_refused(self):
        for wrong in NO_NAMES:
            self.refuses(BadName, wrong, traces, FINE, wrong, "a")
            self.refuses(BadName, wrong, traces, FINE, "a", wrong)
            self.refuses(BadName, wrong, traces, FINE, wrong, "zz")


class Rings(Case):

    def test_the_first_part_that_is_raised_or_the_least_time(self):
        for plan in plans(22, 80):
            for place, depth in plan.places:
                for way in ways_between(plan, place, place)[:200]:
                    shift = way_shift(plan, place, way)
                    raised = [at for at, word in enumerate(trace_of(shift)) if word == "raised"]
                    told = ring_time(plan, place, way)
                    if raised:
                        self.alike(told, ("rises", raised[0]))
                        for time in all_times(depth, 4):
                            self.assertFalse(is_before(shifted(shift, time), time))
                    else:
                        self.alike(told[0], "stays")
                        self.assertTrue(is_before(shifted(shift, told[1]), told[1]))
                        for time in all_times(depth, 6):
                            self.assertEqual(is_before(shifted(shift, time), time), is_before(told[1], time))

    def test_a_raised_part_that_is_set_is_set(self):
        self.alike([ring_time(TWICE, "a", way) for way in ((0,), (1,), (0, 1), (1, 0), (1, 0, 0))],
                   [("rises", 0), ("stays", (3,)), ("stays", (3,)), ("stays", (4,)), ("stays", (5,))])

    def test_depth_four(self):
        plan = Plan("place a 4\nline a a +0 =2 +0 +1\nline a a =7 +0 +0 =0")
        self.alike([ring_time(plan, "a", (0,)), ring_time(plan, "a", (1,))], [("rises", 3), ("stays", (7, 0, 0, 0))])
        self.alike(ring_time(way=(0, 1), place="a", plan=plan), ("stays", (7, 2, 0, 0)))

    def test_a_ring_of_many_lines(self):
        self.alike([ring_time(TWICE, "a", (0,) * 1001), ring_time(TWICE, "a", (1,) + (0,) * 1001)],
                   [("rises", 0), ("stays", (1004,))])

    def test_what_is_no_name_or_no_ring_is_refused(self):
        for wrong in NO_NAMES:
            self.refuses(BadName, wrong, ring_time, FINE, wrong, (1,))
            self.refuses(BadName, wrong, ring_time, FINE, wrong, None)
        for wrong in NEVER + ((), (0,), (0, 1), (2, 0), (1,), (0, 0), (0, 2, 1), (3,), (-1,), (0, -1), (False, 2),
                              (0, True), (0, 2, None), [0, 2], ((0, 2),), "02", {0: 2}):
            self.refuses(BadWay, wrong, ring_time, FINE, "a", wrong)


class Soundness(Case):

    def test_sound_exactly_if_each_ring_raises_a_part(self):
        both = set()
        for plan in plans(23, 300, numbers=(0, 0, 1)):
            rings = [(place, way) for place, _ in plan.places for way in ways_between(plan, place, place)]
            is_sound = not [way for place, way in rings if does_stay(way_shift(plan, place, way))]
            told = soundness(plan)
            both.add(is_sound)
            self.alike(shows_soundness(plan, told), True)
            self.alike(shows_soundness(plan, ("sound",)), is_sound)
            self.assertEqual(is_sound, all("raised" in trace for place, _ in plan.places
                                           for trace in traces(plan, place, place)))
            if is_sound:
                self.alike(told, ("sound",))
            else:
                self.right_ring(plan, told)
        self.assertEqual(both, {True, False})

    def right_ring(self, plan, told):
        """What is told of a plan that is not sound is right."""
        word, place, way, time = told
        self.alike((word, place in plan), ("ring", True))
        self.assertTrue(way and plan.lines[way[0]][0] == place == plan.lines[way[-1]][1])
        self.assertEqual(len(time), dict(plan.places)[place])
        self.assertTrue(is_before(shifted(way_shift(plan, place, way), time), time))

    def test_plans_of_more_places(self):
        for plan in plans(24, 100, most_places=6, most_depth=4, most_lines=10, numbers=(0, 1)):
            told = soundness(plan)
            self.alike(shows_soundness(plan, told), True)
            self.alike(told == ("sound",), staying_lines(plan) == ())
            if told != ("sound",):
                self.right_ring(plan, told)

    def test_no_lines_and_a_ring_of_one(self):
        self.alike(soundness(Plan("place a 1\nplace b 4")), ("sound",))
        self.alike(soundness(Plan("place a 1\nline a a +1")), ("sound",))
        self.alike(soundness(plan=Plan("place a 1\nline a a +0"))[:2], ("ring", "a"))
        self.alike(soundness(Plan("place a 1\nline a a =0"))[:2], ("ring", "a"))

    def test_in_a_sound_plan_could_come_is_an_order(self):
        seen = 0
        for plan in plans(25, 60, numbers=(0, 1)):
            if soundness(plan) != ("sound",):
                continue
            seen += 1
            points = [(name, time) for name, depth in plan.places for time in all_times(depth, 2)]
            for one, other in itertools.combinations(points, 2):
                told = [could_come(plan, one, other)[0], could_come(plan, other, one)[0]]
                self.assertNotEqual(told, ["way", "way"])
        self.assertGreater(seen, 10)


class Shown(Case):

    def test_every_right_ring_and_time_and_no_other_one(self):
        for plan in plans(26, 40, most_lines=3):
            ways = sorted({way for place, _ in plan.places for way, _ in all_ways(plan, place, 3)})
            for (place, depth), way in itertools.product(plan.places, ways):
                ring = way and (way, place) in all_ways(plan, place, 3)
                for time in all_times(depth, 3):
                    right = bool(ring) and is_before(shifted(way_shift(plan, place, way), time), time)
                    self.alike(shows_soundness(plan, ("ring", place, way, time)), right)

    def test_later_times_and_other_rings(self):
        self.alike([shows_soundness(TWICE, ("ring", "a", (0,) * many + (1,), (time,)))
                    for many, time in ((0, 3), (0, 2), (5, 10 ** 39), (2000, 3))], [True, False, True, True])
        self.alike([shows_soundness(value=("ring", "b", (1, 2, 0), time), plan=BAD)
                    for time in ((0, 0), (7, 9), (0,), (0, 0, 0))], [True, True, False, False])

    def test_values_of_any_kind_for_a_plan_that_is_not_sound(self):
        self.alike(shows_soundness(BAD, ("ring", "a", (0, 2), (0,))), True)
        for wrong in NEVER + (
                (), ("sound",), ("ring",), ("ring", "a", (0, 2)), ("ring", "a", (0, 2), (0,), 0),
                ["ring", "a", (0, 2), (0,)], ("Ring", "a", (0, 2), (0,)), (None, "a", (0, 2), (0,)),
                ("sound", "a", (0, 2), (0,)), (["ring"], "a", (0, 2), (0,)), (BAD,) * 4,
                ("ring", "A", (0, 2), (0,)), ("ring", ["a"], (0, 2), (0,)), ("ring", None, (0, 2), (0,)),
                ("ring", "b", (0, 2), (0, 0)), ("ring", "b", (1,), (0, 0)), ("ring", "b", (-1, 0), (0, 0)),
                ("ring", "a", [0, 2], (0,)), ("ring", "a", (), (0,)), ("ring", "a", (0,), (0,)),
                ("ring", "a", (False, 2), (0,)), ("ring", "a", None, (0,)), ("ring", "a", (0, 2), [0]),
                ("ring", "a", (0, 2), (False,)), ("ring", "a", (0, 2), (-1,)), ("ring", "a", (0, 2), 0),
                ("ring", "a", (0, 2), (0, 0)), ("ring", "a", (0, 2), ()), ("ring", "a", (0, 2), None)):
            self.alike(shows_soundness(BAD, wrong), False)

    def test_values_of_any_kind_for_a_sound_plan(self):
        self.alike(shows_soundness(FINE, ("sound",)), True)
        for wrong in NEVER + ((), "sound", ["sound"], ("sound", ()), ("sound", None), ("Sound",), (("sound",),),
                              (["sound"],), ("ring",), (FINE,), ("ring", "a", (0, 2), (0,)),
                              ("ring", "b", (1,), (0, 0))):
            self.alike(shows_soundness(FINE, wrong), False)


class Staying(Case):

    def test_the_lines_of_all_rings_that_stay(self):
        for plan in plans(27, 200, numbers=(0, 0, 1)):
            wanted = {number for place, _ in plan.places for way in ways_between(plan, place, place)
                      if ring_time(plan, place, way)[0] == "stays" for number in way}
            self.alike(staying_lines(plan), tuple(sorted(wanted)))

    def test_only_lines_on_such_a_ring(self):
        top = "place a 1\nplace b 1\nplace c 1\nline a b +0\nline b c +0\nline c b +1\nline a a +1\n"
        plan = Plan(top + "line b b =2\nline b a +0")
        self.alike(staying_lines(plan), (0, 1, 2, 3, 4, 5))
        plan = Plan(top + "line b b +0\nline c a +2")
        self.alike(staying_lines(plan=plan), (4,))
        self.alike(staying_lines(Plan("place a 1")), ())
