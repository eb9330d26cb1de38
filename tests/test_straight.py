"""Needless lines, thinned and straight plans (section 14)."""

import itertools

from closing import closed_tables, line_text, plan_of, small_plans
from support import FULL, NARROW, WIDE, Case, Picks, forked_plan, random_plan
from test_alike import NO_DOORS
from timesover.alike import tells_alike
from timesover.books import first_book, front, took
from timesover.crews import Crew
from timesover.errors import BadDoors, TooMany
from timesover.fronts import fronts_of
from timesover.plans import Plan
from timesover.shifts import kept_shift
from timesover.sound import soundness
from timesover.straight import needless_lines, straight_plan, thinned_plan

ROWS = ["place a 1", "place b 2", "place c 1", "line a b +0 =0", "line b b +0 +1", "line b c +0", "line a c +3"]
PLAN = Plan("\n".join(ROWS))


def is_needless(plan, number):
    """Whether all tables are as they were when the line is left out."""
    rest = plan_of(plan.places, plan.lines[:number] + plan.lines[number + 1:])
    return closed_tables(rest) == closed_tables(plan)


def some_plans(seed, many):
    """Small plans by a rule, with lines that stand twice, or above others."""
    picks = Picks(seed)
    plans = []
    for _ in range(many):
        plan = random_plan(picks, most_places=3, most_lines=5)
        rows = plan.text.split("\n")
        lines = [row for row in rows if row.startswith("line")]
        if lines and picks.randrange(2):
            row = picks.choice(lines)
            rows.append(picks.choice((row, row.replace("+0", "+1"), row.replace("=0", "=2"))))
        plans.append(Plan("\n".join(rows)))
    return plans


def text_without(plan, number):
    """The text of the plan without the line of this number."""
    rows = plan.text.split("\n")
    at = [at for at, row in enumerate(rows) if row.startswith("line ")][number]
    return "\n".join(rows[:at] + rows[at + 1:])


class Needless(Case):

    def test_just_those_without_which_no_table_changes(self):
        seen = set()
        for plan in some_plans(150, 150) + small_plans()[::2]:
            wanted = tuple(number for number in range(len(plan.lines)) if is_needless(plan, number))
            self.alike(needless_lines(plan), wanted)
            seen.add((len(wanted) > 0, len(wanted) < len(plan.lines)))
        self.assertEqual(len(seen), 4)

    def test_a_ring_of_one_line(self):
        for words, needless in (("+0", (0,)), ("+7", (0,)), ("=0", ()), ("=3", ())):
            self.alike(needless_lines(Plan("place a 1\nline a a " + words)), needless)
        self.alike(needless_lines(Plan("place a 2\nline a a +0 +1\nline a a +0 =1\nline a a =1 =1")), (0,))
        self.alike(needless_lines(Plan("place a 2\nline a a +1 +0\nline a a =0 +0\nline a a =0 +2")), (0, 2))

    def test_lines_twice_and_lines_above_others(self):
        self.alike(needless_lines(Plan("place a 1\nplace b 1\nline a b +1\nline a b +1")), (0, 1))
        self.alike(needless_lines(Plan("place a 1\nplace b 1\nline a b +1\nline a b =1\nline a b +0")), (0,))
        self.alike(needless_lines(Plan("place a 1\nplace b 1\nline a b =2\nline a b +2")), (1,))
        self.alike([needless_lines(Plan("place a 1")), thinned_plan(Plan("place a 1"))], [(), Plan("place a 1")])

    def test_arguments_by_name(self):
        self.alike(needless_lines(plan=PLAN), (1, 3))
        self.alike(thinned_plan(plan=PLAN).text, "\n".join(ROWS[:4] + ROWS[5:6]))
        self.alike(straight_plan(doors=("a", "c"), plan=PLAN).text, "place a 1\nplace c 1\nline a c +0")


class Thinned(Case):

    def test_line_by_line(self):
        for plan in some_plans(151, 120):
            left, number = plan, 0
            for line in plan.lines:
                self.assertEqual(left.lines[number], line)
                if is_needless(left, number):
                    left = Plan(text_without(left, number))
                else:
                    number += 1
            thin = thinned_plan(plan)
            self.alike(thin.text, left.text)
            self.alike([needless_lines(thin), thinned_plan(thin)], [(), thin])
            self.assertEqual(closed_tables(thin), closed_tables(plan))

    def test_the_order_of_lines_tells_which_one_is_left_out(self):
        rows = ["place a 1", "line a a =1", "place b 1", "line a b +0", "line b a +0", "line b b =1"]
        self.alike(needless_lines(Plan("\n".join(rows))), (0, 3))
        self.alike(thinned_plan(Plan("\n".join(rows))).text, "\n".join(rows[:1] + rows[2:]))
        other = rows[:1] + [rows[2], rows[5]] + rows[3:5] + rows[1:2]
        self.alike(thinned_plan(Plan("\n".join(other))).text, "\n".join(other[:2] + other[3:]))

    def test_the_lines_of_text_that_are_left_stand_in_their_order(self):
        rows = ["place a 1", "line a a +3", "line a a =4", "place line 1", "line line a +0", "line a line =0",
                "line a a =2", "place c 1", "line a line +0"]
        plan = Plan("\n".join(rows))
        self.alike(needless_lines(plan), (0, 1, 4, 5))
        self.alike(thinned_plan(plan).text, "\n".join([rows[0], *rows[3:6], rows[7]]))


class Straight(Case):

    def test_to_the_letter(self):
        picks, many = Picks(152), 0
        for plan in some_plans(153, 200):
            names = [name for name, _ in plan.places]
            doors = tuple(names.pop(picks.randrange(len(names))) for _ in range(picks.randint(1, len(names))))
            tables, depths = closed_tables(plan), dict(plan.places)
            lines = [(door, far, shift) for door in doors for far in doors for shift in tables[door, far]
                     if (door, shift) != (far, kept_shift(depths[door]))]
            wanted = plan_of([(door, depths[door]) for door in doors], lines[:24])
            if len(lines) > 24:
                self.refuses(TooMany, 24, straight_plan, plan, doors)
                continue
            straight = straight_plan(plan, doors)
            self.alike(straight.text, thinned_plan(wanted).text)
            self.alike([line_text(line) for line in straight.lines],
                       [row for row in straight.text.split("\n")[len(doors):]])
            self.check_told(plan, straight, doors)
            many += len(straight.lines) > 1
        self.assertGreater(many, 20)

    def check_told(self, plan, straight, doors):
        """At the doors the straight plan tells what the plan tells, at any time."""
        self.alike(tells_alike(plan, straight, doors, doors), ("alike",))
        if soundness(plan) == ("sound",):
            self.alike(soundness(straight), ("sound",))
        depths = dict(plan.places)
        for door in doors:
            for time in itertools.product((0, 1, 3), repeat=depths[door]):
                fronts = dict(zip([name for name, _ in plan.places], fronts_of(plan, ((door, time),))))
                self.alike(fronts_of(straight, ((door, time),)), tuple(fronts[far] for far in doors))

    def test_books_of_a_plan_and_of_its_straight_plan(self):
        picks, many = Picks(154), 0
        for plan in some_plans(155, 150):
            doors = tuple(name for name, _ in plan.places)[::-1][:2]
            if soundness(plan) != ("sound",):
                continue
            straight = straight_plan(plan, doors)
            rows = [(door, tuple(picks.randrange(4) for _ in range(dict(plan.places)[door])))
                    for door in doors for _ in range(2)]
            text = "hands 2" + "".join(f"\nwork 1 {door} " + " ".join(map(str, time)) for door, time in rows)
            crews = Crew(plan, text), Crew(straight, text)
            books = [first_book(crew, 1) for crew in crews]
            for door, time in rows:
                for far in doors:
                    self.alike(*[front(crew, book, far) for crew, book in zip(crews, books)])
                # One that stays, and all those that lines of the straight plan put: both plans let them be put.
                put = ((door, time[:-1] + (time[-1] + picks.randint(1, 3),)),)
                books = [took(crew, book, (door, time), put)[0] for crew, book in zip(crews, books)]
                many += 1
            for far in doors:
                self.alike(*[front(crew, book, far) for crew, book in zip(crews, books)])
        self.assertGreater(many, 100)

    def test_the_empty_way_is_left_out_but_not_a_shift_below_it(self):
        self.alike(straight_plan(Plan("place a 1\nline a a +1"), ("a",)).text, "place a 1")
        self.alike(straight_plan(Plan("place a 1\nline a a =0"), ("a",)).text, "place a 1\nline a a =0")
        self.alike(straight_plan(Plan("place a 1\nline a a =2"), ("a",)).text, "place a 1\nline a a =2")
        # From another place a line all of whose words are +0 stays.
        plan = Plan("place a 1\nplace b 1\nplace c 1\nline a b +0\nline b c +0")
        self.alike(straight_plan(plan, ("c", "a")).text, "place c 1\nplace a 1\nline a c +0")
        self.alike(straight_plan(plan, ("a", "b", "c")).text,
                   "place a 1\nplace b 1\nplace c 1\nline a b +0\nline b c +0")

    def test_24_and_25_straight_lines(self):
        plan = forked_plan((2, 3, 4))
        straight = straight_plan(plan, ("a", "d"))
        self.alike([len(straight.lines), straight.text.split("\n")[:2]], [24, ["place a 2", "place d 2"]])
        self.refuses(TooMany, 24, straight_plan, forked_plan((2, 3, 4), ["line a d +1 +45"]), ("a", "d"))
        self.refuses(TooMany, 24, straight_plan, forked_plan((5, 5)), ("c", "a"))
        self.refuses(TooMany, 24, straight_plan, FULL, ("a", "f"))
        # What is thinned out behind this counts, too.
        self.refuses(TooMany, 24, straight_plan, forked_plan((2, 3, 4)), ("a", "b", "d"))
        self.refuses(TooMany, 24, straight_plan, forked_plan((2, 3, 3)), ("a", "b", "d"))
        self.alike(len(straight_plan(forked_plan((2, 3, 2)), ("a", "b", "d")).lines), 2 + 6)

    def test_too_many_shifts(self):
        self.refuses(TooMany, 200, straight_plan, WIDE, ("a", "f"))
        self.refuses(TooMany, 200, straight_plan, WIDE, ("f", "e", "a"))
        self.refuses(TooMany, 24, straight_plan, WIDE, ("a", "e"))
        self.alike(len(straight_plan(WIDE, ("a", "c", "b")).lines), 4)
        self.alike(straight_plan(NARROW, ("f", "e")).lines, (("e", "f", (("+", 0), ("+", 0))),))


class TooManyShifts(Case):

    def test_in_what_is_left_without_a_line(self):
        shortcut = "line a f +0 +0"
        full = forked_plan((2, 2, 2, 5, 5), [shortcut])
        self.alike([needless_lines(full), thinned_plan(full)], [(), full])
        wide = forked_plan((2, 2, 2, 5, 5), ["line a f +1 +397", shortcut])
        # Without the shortcut the table has 201 shifts; it is looked at behind the other line, which is left out.
        self.refuses(TooMany, 200, needless_lines, wide)
        self.alike(thinned_plan(wide), full)
        twice = forked_plan((2, 2, 2, 5, 5), [shortcut, shortcut, "line a f +1 +397"])
        self.alike(needless_lines(twice), (16, 17, 18))
        # Without the first one the second one is there; without both of them the table has 201 shifts.
        self.refuses(TooMany, 200, thinned_plan, twice)

    def test_of_the_places_of_the_line_alone(self):
        # The table from a to f has 201 shifts with all lines, and with all but one; no line leads from a to f.
        plan = forked_plan((2, 2, 2, 5, 6))
        self.alike([needless_lines(plan), thinned_plan(plan)], [(), plan])
        self.alike([needless_lines(WIDE), thinned_plan(WIDE)], [(), WIDE])


class Errors(Case):

    def test_what_are_no_doors_is_refused(self):
        for wrong in NO_DOORS:
            self.refuses(BadDoors, wrong, straight_plan, PLAN, wrong)
        for wrong in ((), ("a", "a"), ("g", "f"), ["a", "f"]):
            self.refuses(BadDoors, wrong, straight_plan, WIDE, wrong)
