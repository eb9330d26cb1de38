"""Crews and deeds (section 9)."""

import itertools

from support import (
    FULL, NEVER, NO_POINTS, WIDE, Case, Picks, points_of, some_plans, some_works, sound_plans,
)
from timesover.crews import Crew, check_deed, counts_behind, deed_changes
from timesover.errors import BadCrew, BadDeeds, BadPoint, BadPut, NotSound, TooMany
from timesover.plans import Plan, can_put
from timesover.sound import shows_soundness, soundness

ROWS = ["place a 1", "place b 2", "place c 1", "line a b +0 =0", "line b b +0 +1", "line b c +0", "line c a +1"]
PLAN = Plan("\n".join(ROWS))
RINGED = Plan("place a 1\nplace b 2\nplace c 1\nline a a +0")
TAKEN = ("b", (1, 1))
LATER = ("b", (1, 2))
# Values that cannot be put for a work at TAKEN.
NO_PUTS = NEVER + (
    LATER, [LATER], (TAKEN,), (("b", (1, 0)),), (("b", (0, 9)),), (("a", (9,)),), (("c", (0,)),), (("c", (1, 1)),),
    (("c", (True,)),), (("d", (1,)),), (("c", (1,)), LATER), (LATER, ("b", (1, 1))), (LATER, None), (list(LATER),),
    (("b", [1, 2]),), (LATER,) * 13, ((LATER,),), {LATER: 1}, (LATER, ("b", (2, 9)), ("b", (2, 1))), (LATER, 0),
    (("b", (1, 10)), ("b", (1, 9))),
)


def cases(seed, many, **limits):
    """Sound plans with crews, by a rule."""
    picks = Picks(seed)
    rows = []
    for plan in sound_plans(seed, many, **limits):
        works = [(picks.randrange(3), point) for point in some_works(picks, plan, 5)]
        text = "\n".join(["hands 3"] + [" ".join(["work", str(hand), place, *map(str, time)])
                                        for hand, (place, time) in works])
        rows.append((Crew(plan, text), tuple(works), picks))
    return rows


def some_deed(picks, plan, most=4):
    """A deed by a rule."""
    taken = picks.choice(points_of(plan, 3))
    far = [point for point in points_of(plan, 6) if can_put(plan, taken, point)]
    return taken, tuple(sorted(picks.choice(far) for _ in range(picks.randint(0, most))))


class Texts(Case):

    def bad(self, number, *rows):
        self.refuses(BadCrew, number, Crew, PLAN, "\n".join(rows))

    def test_what_a_crew_keeps(self):
        text = "hands 3\nwork 2 b 0 7\nwork 0 a 0\nwork 2 b 0 7\nwork 1 c 999999999"
        crew = Crew(PLAN, text)
        self.assertIs(crew.plan, PLAN)
        self.alike([crew.text, crew.hands], [text, 3])
        point = (2, ("b", (0, 7)))
        self.alike(crew.works, (point, (0, ("a", (0,))), point, (1, ("c", (999999999,)))))
        self.alike(Crew(text="hands 2", plan=PLAN).works, ())

    def test_works_of_all_kinds(self):
        for crew, works, _ in cases(50, 40, most_places=5, most_depth=4):
            self.alike(crew.works, works)

    def test_two_to_six_hands(self):
        for many in range(2, 7):
            self.alike(Crew(PLAN, f"hands {many}\nwork {many - 1} a 0").hands, many)
            self.bad(2, f"hands {many}", f"work {many} a 0")
        for word in ("0", "1", "7", "10", "02", "+2", "-2", "2.0", "two", "", " 2", "2 ", "2 2", "a"):
            self.bad(1, "hands " + word, "work 0 a 0")
        for row in ("", "hands", "hand 2", "Hands 2", "hands  2", " hands 2", "hands 2 ", "work 0 a 0", "2", "hands2"):
            self.bad(1, row, "hands 2")
        self.bad(2, "hands 2", "hands 2")
        self.bad(3, "hands 2", "work 0 a 0", "hands 2")

    def test_empty_lines(self):
        self.bad(1, "")
        self.bad(2, "hands 2", "")
        self.bad(3, "hands 2", "work 0 a 0", "")
        self.bad(1, "", "hands 2")
        self.bad(2, "hands 2", "", "work 0 a 0")

    def test_lines_of_works(self):
        for row in ("work", "work 0", "work 0 a", "work 0 a 0 0", "work 0 b 0", "work 0 b 0 0 0", "work 0 d 0",
                    "work 0 A 0", "work a 0", "work 2 a 0", "work 9 a 0", "work 00 a 0", "work -1 a 0", "work +0 a 0",
                    "work x a 0", "work 0 a -1", "work 0 a +0", "work 0 a 00", "work 0 a 01", "work 0 a 1.0",
                    "work 0 a x", "work 0 a =0", "work 0 a 1000000000", "work 0 b 0 1000000000", "work 0 b 00 0",
                    "work  0 a 0", "work 0  a 0", "work 0 a  0", " work 0 a 0", "work 0 a 0 ", "Work 0 a 0",
                    "works 0 a 0", "0 a 0", "rubbish", "work 0 a 1_0", "work 1000000000 a 0", "place d 1",
                    "work 0 a 0 work"):
            self.bad(2, "hands 2", row)
            self.bad(3, "hands 2", "work 1 b 3 4", row, "rubbish")

    def test_forty_works_and_one_more(self):
        rows = ["hands 6"] + ["work 5 a 0"] * 40
        self.alike(Crew(PLAN, "\n".join(rows)).works, ((5, ("a", (0,))),) * 40)
        for more in ("work 5 a 0", "", "rubbish", "hands 6"):
            self.bad(42, *rows, more)
        self.bad(41, *rows[:40], "rubbish", "work 5 a 0", "work 5 a 0")
        self.bad(42, *rows, "work 5 a 0", "rubbish")

    def test_what_is_no_string(self):
        for wrong in NEVER + (PLAN, ("hands 2",), ["hands 2"], b"hands 2", 2):
            if not isinstance(wrong, str):
                self.refuses(BadCrew, 0, Crew, PLAN, wrong)
        for wrong in ("a", "zz", "+", "kept", "0"):
            self.refuses(BadCrew, 1, Crew, PLAN, wrong)

    def test_equal_if_plans_and_texts_are(self):
        text = "hands 2\nwork 0 a 0"
        crew = Crew(PLAN, text)
        self.alike([crew == Crew(Plan(PLAN.text), text), crew != Crew(Plan(PLAN.text), text)], [True, False])
        for other in (Crew(PLAN, "hands 2"), Crew(PLAN, text + "\nwork 0 a 0"), Crew(PLAN, "hands 3\nwork 0 a 0"),
                      Crew(Plan("place a 1"), text), PLAN, text, (PLAN, text), None, 2, [crew], crew.works):
            self.alike([crew == other, crew != other, other == crew, other != crew], [False, True, False, True])


class Plans(Case):

    def test_a_plan_that_is_not_sound_is_refused_first(self):
        for text in ("hands 2", "rubbish", None, ["hands 2"]):
            with self.assertRaises(NotSound) as caught:
                Crew(RINGED, text)
            self.alike(shows_soundness(RINGED, caught.exception.value), True)
        both = set()
        for plan in some_plans(51, 60):
            told = soundness(plan)
            both.add(told[0])
            if told == ("sound",):
                self.alike(Crew(plan, "hands 2").works, ())
            else:
                self.assertRaises(NotSound, Crew, plan, "hands 2")
        self.assertEqual(both, {"sound", "ring"})

    def test_tables_of_200_and_of_201_shifts(self):
        self.alike(Crew(FULL, "hands 2").hands, 2)
        for text in ("hands 2", "hands 2\nwork 0 f 0 0", "rubbish", "", None, 7):
            self.refuses(TooMany, 200, Crew, WIDE, text)
        self.refuses(BadCrew, 1, Crew, FULL, "rubbish")
        wide_and_ringed = Plan(WIDE.text + "\nline a a +0 +0")
        self.assertRaises(NotSound, Crew, wide_and_ringed, None)


class Deeds(Case):

    def test_what_can_be_put(self):
        self.alike(check_deed(PLAN, TAKEN, ()), None)
        self.alike(check_deed(put=(LATER,) * 12, taken=TAKEN, plan=PLAN), None)
        self.alike(check_deed(PLAN, TAKEN, (LATER, ("b", (2, 1)), ("c", (1,)), ("c", (1,)), ("c", (10 ** 39,)))), None)

    def test_what_cannot_be_put_is_refused(self):
        for wrong in NO_PUTS:
            for function in (check_deed, deed_changes):
                self.refuses(BadPut, wrong, function, PLAN, TAKEN, wrong)
        for wrong in NO_POINTS:
            for function in (check_deed, deed_changes):
                for put in ((), None, wrong, (TAKEN,)):
                    self.refuses(BadPoint, wrong, function, PLAN, wrong, put)

    def test_by_the_definition(self):
        picks = Picks(52)
        for plan in some_plans(53, 60):
            points = points_of(plan, 3)
            for _ in range(20):
                taken, put = picks.choice(points), tuple(picks.choice(points) for _ in range(picks.randint(0, 3)))
                if list(put) == sorted(put) and all(can_put(plan, taken, point) for point in put):
                    self.alike(check_deed(plan, taken, put), None)
                    changes = {point: put.count(point) - (point == taken) for point in put + (taken,)}
                    wanted = tuple((point, changes[point]) for point in sorted(changes) if changes[point])
                    self.alike(deed_changes(plan, taken, put), wanted)
                else:
                    self.refuses(BadPut, put, check_deed, plan, taken, put)
                    self.refuses(BadPut, put, deed_changes, plan, taken, put)

    def test_changes(self):
        self.alike(deed_changes(PLAN, TAKEN, ()), ((TAKEN, -1),))
        self.alike(deed_changes(put=(LATER,) * 12, plan=PLAN, taken=TAKEN), ((TAKEN, -1), (LATER, 12)))
        self.alike(deed_changes(PLAN, ("c", (4,)), (("a", (5,)), ("a", (5,)), ("c", (7,)))),
                   ((("a", (5,)), 2), (("c", (4,)), -1), (("c", (7,)), 1)))

    def test_in_a_plan_that_is_not_sound_a_change_can_be_nought(self):
        point = ("a", (3,))
        self.alike([deed_changes(RINGED, point, (point,)), deed_changes(RINGED, point, (point, point))],
                   [(), ((point, 1),)])


class Counts(Case):

    def test_works_of_the_beginning_less_takes_and_puts(self):
        below = 0
        for crew, works, picks in cases(54, 80):
            deeds = [some_deed(picks, crew.plan) for _ in range(picks.randint(0, 6))]
            counts = {}
            for point in [point for _, point in works] + [point for _, put in deeds for point in put]:
                counts[point] = counts.get(point, 0) + 1
            for taken, _ in deeds:
                counts[taken] = counts.get(taken, 0) - 1
            wanted = tuple((point, counts[point]) for point in sorted(counts) if counts[point])
            self.alike(counts_behind(crew, tuple(deeds)), wanted)
            below += any(count < 0 for _, count in wanted)
        self.assertGreater(below, 10)

    def test_no_deeds_and_deeds_in_any_order(self):
        crew = Crew(PLAN, "hands 2\nwork 0 b 1 1\nwork 1 a 0\nwork 1 b 1 1")
        self.alike(counts_behind(crew, ()), ((("a", (0,)), 1), (TAKEN, 2)))
        deeds = ((TAKEN, (LATER,)), (LATER, (("c", (1,)),)), (("c", (1,)), ()), (("c", (9,)), ()))
        for row in itertools.permutations(deeds):
            self.alike(counts_behind(deeds=row, crew=crew), ((("a", (0,)), 1), (TAKEN, 1), (("c", (9,)), -1)))

    def test_what_are_no_deeds_is_refused(self):
        crew, right = Crew(PLAN, "hands 2"), (TAKEN, (LATER,))
        for wrong in NEVER:
            self.refuses(BadDeeds, 0 if isinstance(wrong, tuple) else -1, counts_behind, crew, wrong)
        self.refuses(BadDeeds, -1, counts_behind, crew, [right])
        wrongs = [None, (), (TAKEN,), (TAKEN, (), 0), [TAKEN, ()], (TAKEN, None), (None, ()), ("a", ()), (0, TAKEN, ()),
                  TAKEN, right[::-1], (list(TAKEN), ())]
        wrongs += [(TAKEN, put) for put in NO_PUTS] + [(taken, ()) for taken in NO_POINTS]
        for wrong in wrongs:
            self.refuses(BadDeeds, 0, counts_behind, crew, (wrong,))
            self.refuses(BadDeeds, 2, counts_behind, crew, (right, right, wrong, right, None))
