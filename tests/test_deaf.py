"""Deaf hands (section 13)."""

import itertools

from histories import History
from support import FULL, NARROW, NEVER, WIDE, Case, Picks, all_ways, sound_plans
from timesover.deaf import deaf_safe, least_heard
from timesover.errors import BadPlaces, NotSound, TooMany
from timesover.plans import Plan
from timesover.shifts import shifted
from timesover.sound import shows_soundness
from timesover.tables import could_come, shift_table

PLAN = Plan("place b 2\nplace a 1\nplace c 1\nline a b +0 =0\nline b b +0 +1\nline b c +0")
RINGED = Plan("place a 1\nline a a +0")
# None of these is a lot of places of PLAN.
NO_LOTS = tuple(value for value in NEVER if value not in ("a",)) + (
    "a", ["a"], ("a", "b"), ("c", "a"), ("a", "a"), ("b", "b"), ("d",), ("A",), ("b", "d"), (("a",),), ("b", None),
    ("b", ["a"]), {"a": 1}, ("b", "c", "a"), ("b", "a", "c", "c"), ("b", 0), ("",), ("bac",), ((),),
)


def led(plan):
    """The pairs of places such that a way, of lines or of none, leads from the one to the other."""
    return {(place, end) for place, _ in plan.places for _, end in all_ways(plan, place, len(plan))}


def lots(plan):
    """All lots of places."""
    names = [name for name, _ in plan.places]
    return [lot for many in range(len(names) + 1) for lot in itertools.combinations(names, many)]


class Safe(Case):

    def test_exactly_if_no_way_leads_from_a_deaf_place_to_an_asked_one(self):
        both = set()
        for plan in sound_plans(90, 60, most_lines=5):
            pairs = led(plan)
            for deaf, asked in itertools.product(lots(plan), repeat=2):
                found = [(near, far) for far in asked for near in deaf if (near, far) in pairs]
                both.add(bool(found))
                if not found:
                    self.alike(deaf_safe(plan, deaf, asked), ("safe",))
                    continue
                near, far = found[0]
                point = (near, (0,) * dict(plan.places)[near])
                times = [shifted(shift, point[1]) for shift in shift_table(plan, near, far)]
                self.alike(deaf_safe(plan, deaf, asked), ("unsafe", point, (far, sorted(times)[0])))
                # A work at point can come there, and the hand knows of no work at all.
                self.assertEqual(could_come(plan, point, (far, sorted(times)[0]))[0], "way")
        self.assertEqual(both, {True, False})

    def test_what_is_safe_is_never_wrong(self):
        picks = Picks(91)
        seen = 0
        for plan in sound_plans(91, 80, most_places=4, most_lines=5):
            history = History(picks, plan, 8)
            for deaf, asked in itertools.product(lots(plan)[1:], repeat=2):
                if picks.randrange(4) or deaf_safe(plan, deaf, asked) != ("safe",):
                    continue
                seen += 1
                counted = [point for point, count in history.counts(history.heard)
                           if count > 0 and point[0] not in deaf]
                for work, place in itertools.product(history.works(), asked):
                    for shift in shift_table(plan, work[0], place):
                        point = (place, shifted(shift, work[1]))
                        self.assertTrue([far for far in counted if could_come(plan, far, point)[0] == "way"])
        self.assertGreater(seen, 50)

    def test_least_heard(self):
        for plan in sound_plans(92, 60, most_lines=5):
            pairs = led(plan)
            for asked in lots(plan):
                wanted = tuple(name for name, _ in plan.places if [far for far in asked if (name, far) in pairs])
                self.alike(least_heard(plan, asked), wanted)
                for deaf in lots(plan):
                    self.assertEqual(deaf_safe(plan, deaf, asked) == ("safe",), not set(deaf) & set(wanted))

    def test_no_places_and_all_places(self):
        every = ("b", "a", "c")
        self.alike([deaf_safe(PLAN, (), every), deaf_safe(PLAN, every, ()), deaf_safe(PLAN, (), ())], [("safe",)] * 3)
        self.alike(deaf_safe(asked=every, deaf=every, plan=PLAN), ("unsafe", ("b", (0, 0)), ("b", (0, 0))))
        self.alike([least_heard(PLAN, ()), least_heard(asked=every, plan=PLAN)], [(), every])

    def test_the_order_of_the_text_counts(self):
        self.alike(deaf_safe(PLAN, ("a", "c"), ("b", "c")), ("unsafe", ("a", (0,)), ("b", (0, 0))))
        self.alike(deaf_safe(PLAN, ("b", "a"), ("c",)), ("unsafe", ("b", (0, 0)), ("c", (0,))))
        self.alike(deaf_safe(PLAN, ("b", "c"), ("a", "c")), ("unsafe", ("b", (0, 0)), ("c", (0,))))
        self.alike(least_heard(PLAN, ("c",)), ("b", "a", "c"))
        self.alike(least_heard(PLAN, ("b",)), ("b", "a"))

    def test_the_least_time_as_python_sorts(self):
        plan = Plan("place a 1\nplace b 2\nline a b +1 =0\nline a b +0 =7\nline a b =3 =0")
        self.alike(deaf_safe(plan, ("a",), ("b",)), ("unsafe", ("a", (0,)), ("b", (0, 7))))


class Errors(Case):

    def test_what_is_no_lot_of_places_is_refused(self):
        for wrong in NO_LOTS:
            self.refuses(BadPlaces, wrong, deaf_safe, PLAN, wrong, ())
            self.refuses(BadPlaces, wrong, deaf_safe, PLAN, (), wrong)
            self.refuses(BadPlaces, wrong, deaf_safe, PLAN, wrong, ("d",))
            self.refuses(BadPlaces, wrong, least_heard, PLAN, wrong)

    def test_a_plan_that_is_not_sound_is_refused_first(self):
        for lot in ((), ("a",), None):
            for arguments in ((deaf_safe, RINGED, lot, ()), (deaf_safe, RINGED, (), lot), (least_heard, RINGED, lot)):
                with self.assertRaises(NotSound) as caught:
                    arguments[0](*arguments[1:])
                self.alike(shows_soundness(RINGED, caught.exception.value), True)

    def test_only_the_table_that_is_asked_can_be_too_large(self):
        self.refuses_in_order(deaf_safe, (NARROW, ("a",), ("f",)), (
            (1, BadPlaces, ("b", "a"), ("b", "a")), (2, BadPlaces, None, None), (0, TooMany, WIDE, 200)))
        for deaf in (("a",), ("a", "b", "f")):
            self.refuses(TooMany, 200, deaf_safe, WIDE, deaf, ("f",))
            self.alike(deaf_safe(FULL, deaf, ("f",)), ("unsafe", ("a", (0, 0)), ("f", (0, 398))))
        self.alike(deaf_safe(WIDE, ("a", "b"), ("b", "f")), ("unsafe", ("a", (0, 0)), ("b", (0, 2))))
        self.alike(deaf_safe(WIDE, ("e", "f"), ("f",)), ("unsafe", ("e", (0, 0)), ("f", (0, 320))))
        self.alike([deaf_safe(WIDE, ("f",), ("a",)), least_heard(WIDE, ("b", "f"))],
                   [("safe",), ("a", "b", "c", "d", "e", "f")])
