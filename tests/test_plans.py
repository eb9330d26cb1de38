"""Plans (section 5) and what section 2 says of names, texts and points."""

import itertools
import random

from support import NEVER, NO_NAMES, NO_POINTS, Case, all_times, random_plan
from timesover.errors import BadName, BadNames, BadPlan, BadPoint
from timesover.plans import (
    Plan, can_put, depth_of, is_point, led_places, lines_from, lines_putting, lines_to,
)
from timesover.shifts import shifted
from timesover.times import is_before

ROWS = ["place a 1", "place b 2", "place c 1", "line a b +0 =0", "line b b +0 +1", "line b c +0", "line c a +1"]
PLAN = Plan("\n".join(ROWS))
LETTERS = "abcdefghijklmnopqrstuvwxyz"


def places_text(many):
    """The text of so many places."""
    return "\n".join(f"place {letter} 1" for letter in LETTERS[:many])


class Texts(Case):

    def bad(self, number, *rows):
        self.refuses(BadPlan, number, Plan, "\n".join(rows))

    def test_what_a_plan_keeps(self):
        self.alike(PLAN.text, "\n".join(ROWS))
        self.alike(PLAN.places, (("a", 1), ("b", 2), ("c", 1)))
        self.alike(PLAN.lines, (
            ("a", "b", (("+", 0), ("=", 0))), ("b", "b", (("+", 0), ("+", 1))),
            ("b", "c", (("+", 0),)), ("c", "a", (("+", 1),))))
        self.alike(Plan(text="place a 1").places, (("a", 1),))

    def test_rows_in_any_sequence_keep_that_of_the_text(self):
        plan = Plan("place z 1\nline z z +1\nplace line 2\nline line z =5\nplace place 4\nline z line +2 =0")
        self.alike(plan.places, (("z", 1), ("line", 2), ("place", 4)))
        self.alike(plan.lines, (
            ("z", "z", (("+", 1),)), ("line", "z", (("=", 5),)), ("z", "line", (("+", 2), ("=", 0)))))

    def test_what_is_no_string(self):
        for wrong in NEVER:
            if not isinstance(wrong, str):
                self.refuses(BadPlan, 0, Plan, wrong)
        for wrong in (PLAN, ("place a 1",), ["place a 1"], b"place a 1"):
            self.refuses(BadPlan, 0, Plan, wrong)

    def test_empty_lines(self):
        self.bad(1, "")
        self.bad(2, "place a 1", "")
        self.bad(1, "", "place a 1")
        self.bad(2, "place a 1", "", "place b 1")
        self.bad(1, "", "")

    def test_blanks(self):
        for row in ("place  a 1", " place a 1", "place a 1 ", "place a  1", " ", "place", "place a", "place a 1 1"):
            self.bad(1, row)
            self.bad(3, "place b 1", "line b b +0", row, "rubbish")
        for row in ("line b  b +0", " line b b +0", "line b b +0 ", "line b b  +0", "line  b b +0"):
            self.bad(2, "place b 1", row)

    def test_words(self):
        for row in ("Place a 1", "places a 1", "plac a 1", "rubbish", "LINE a a +0", "lines a a +0", "# place a 1"):
            self.bad(2, "place a 1", row)
        for row in ("places b 1", "Place b 1", "line b 1", " b 1", "b 1", "place b"):
            self.bad(2, "place a 1", row)

    def test_names(self):
        for name in ("a", "z", "abcdefgh", "place", "line"):
            self.alike(Plan(f"place {name} 1").places, ((name, 1),))
        for name in ("", "abcdefghi", "A", "aB", "a1", "a_", "1", "-", "a.b", "a\tb"):
            self.bad(1, f"place {name} 1")

    def test_a_name_stands_once(self):
        self.bad(3, "place a 1", "place b 1", "place a 2")
        self.bad(2, "place a 1", "place a 1")

    def test_depths(self):
        for depth in (1, 2, 3, 4):
            self.alike(Plan(f"place a {depth}").places, (("a", depth),))
        for depth in ("0", "5", "01", "-1", "+1", "1.0", "one", "10", "=1", "a"):
            self.bad(1, f"place a {depth}")

    def test_one_to_twelve_places(self):
        self.alike(len(Plan(places_text(1))), 1)
        self.alike(len(Plan(places_text(12))), 12)
        self.bad(13, places_text(13))
        self.bad(14, places_text(12), "line a b +0", places_text(13)[-9:])

    def test_up_to_24_lines(self):
        text = places_text(2) + "\nline a b +1" * 24
        self.alike(len(Plan(text).lines), 24)
        self.bad(27, text + "\nline a b +1")
        self.bad(27, text + "\nline b b =0\nrubbish")
        self.alike(len(Plan(text + "\nplace c 1")), 3)
        self.alike(Plan("place a 1").lines, ())

    def test_lines_are_between_places_above(self):
        self.bad(1, "line a a +0", "place a 1")
        self.bad(2, "place a 1", "line a b +0", "place b 1")
        self.bad(2, "place b 1", "line a b +0", "place a 1")
        for row in ("line a", "line", "line a a", "line a +0", "line a A +0"):
            self.bad(2, "place a 1", row)

    def test_a_word_for_each_part_of_the_second_place(self):
        top = ("place a 2", "place b 3")
        self.alike(Plan("\n".join(top) + "\nline a b +0 +1 =2").lines, (("a", "b", (("+", 0), ("+", 1), ("=", 2))),))
        self.bad(3, *top, "line a b +0 +1")
        self.bad(3, *top, "line a b +0 +1 =2 =3")
        self.bad(3, *top, "line b a +0 +1 +2")
        self.alike(Plan("\n".join(top) + "\nline b a =0 +1").lines, (("b", "a", (("=", 0), ("+", 1))),))

    def test_plus_only_for_a_part_that_the_first_place_has(self):
        top = ("place a 1", "place b 4")
        self.alike(Plan("\n".join(top) + "\nline a b =3 =0 =1 =2").lines[0][2],
                   (("=", 3), ("=", 0), ("=", 1), ("=", 2)))
        for words in ("+0 +0 =0 =0", "+0 =0 +0 =0", "=0 =0 =0 +0", "+0 +0 +0 +0"):
            self.bad(3, *top, "line a b " + words)
        self.alike(len(Plan("\n".join(top) + "\nline b b +0 +0 +0 +0").lines), 1)

    def test_numbers(self):
        for number in (0, 1, 9, 10, 123456789, 999999999):
            self.alike(Plan(f"place a 1\nline a a +{number}\nline a a ={number}").lines,
                       (("a", "a", (("+", number),)), ("a", "a", (("=", number),))))
        for number in ("", "00", "01", "1000000000", "1234567890", "-1", "+1", "=1", " 1", "1.0", "1_0", "x", "1x",
                       "0x1", "0123456789", "000000001"):
            self.bad(2, "place a 1", "line a a +" + number)
            self.bad(2, "place a 1", "line a a =" + number)
        for word in ("0", "1", "-1", "a", "*1", "+", "="):
            self.bad(2, "place a 1", "line a a " + word)

    def test_the_first_line_that_is_not_as_told(self):
        self.bad(2, "place a 1", "line a a", "place a 1", "", "rubbish")
        self.bad(1, "rubbish", "rubbish")


class Plans(Case):

    def test_length_and_names_in_it(self):
        self.alike(len(PLAN), 3)
        self.alike(["a" in PLAN, "b" in PLAN, "d" in PLAN], [True, True, False])
        for wrong in NO_NAMES:
            self.assertFalse(wrong in PLAN)
            self.assertTrue(wrong not in PLAN)
        self.assertFalse(Plan("place a 1") in PLAN)

    def test_equal_if_the_texts_are(self):
        same = Plan("\n".join(ROWS))
        self.alike([PLAN == same, PLAN != same], [True, False])
        other = Plan("place b 1\nplace a 1")
        for unlike in (Plan("place a 1\nplace b 1"), Plan("place b 1"), other.text, other.places, None, 1, [other], ()):
            self.alike([other == unlike, other != unlike, unlike == other], [False, True, False])

    def test_equal_calls_tell_equal_things(self):
        same = Plan("\n".join(ROWS))
        for place in "abc":
            self.alike(lines_from(PLAN, place), lines_from(same, place))
        self.alike(lines_putting(PLAN, ("a", (1,)), ("b", (1, 0))), lines_putting(same, ("a", (1,)), ("b", (1, 0))))

    def test_depth_of(self):
        self.alike([depth_of(PLAN, "a"), depth_of(PLAN, "b"), depth_of(place="c", plan=PLAN)], [1, 2, 1])
        self.alike(depth_of(Plan("place a 4"), "a"), 4)

    def test_what_is_no_name_is_refused(self):
        for wrong in NO_NAMES:
            for function in (depth_of, lines_from, lines_to):
                self.refuses(BadName, wrong, function, PLAN, wrong)

    def test_points(self):
        for value in (("a", (0,)), ("b", (0, 0)), ("c", (10 ** 39,))):
            self.alike(is_point(PLAN, value), True)
        for wrong in NO_POINTS:
            self.alike(is_point(PLAN, wrong), False)
        self.alike(is_point(value=("d", (1, 2, 3, 4)), plan=Plan("place d 4")), True)

    def test_lines_from_and_to(self):
        self.alike([lines_from(PLAN, place) for place in "abc"], [(0,), (1, 2), (3,)])
        self.alike([lines_to(PLAN, place) for place in "abc"], [(3,), (0, 1), (2,)])
        plan = Plan("place a 1\nplace b 1\nplace c 1" + "\nline a b +0\nline b a +0" * 6)
        self.alike([lines_from(plan=plan, place="a"), lines_to(plan=plan, place="a")],
                   [(0, 2, 4, 6, 8, 10), (1, 3, 5, 7, 9, 11)])
        self.alike([lines_from(plan, "c"), lines_to(plan, "c")], [(), ()])


class Putting(Case):

    def test_what_can_be_put_by_its_definition(self):
        rng = random.Random(6)
        for _ in range(25):
            plan = random_plan(rng)
            points = [(name, time) for name, depth in plan.places for time in all_times(depth, 3)]
            for point, other in itertools.product(points, repeat=2):
                numbers = tuple(
                    number for number, (start, end, shift) in enumerate(plan.lines)
                    if start == point[0] and end == other[0] and is_before(shifted(shift, point[1]), other[1]))
                later = point[0] == other[0] and point != other and is_before(point[1], other[1])
                self.alike(lines_putting(plan, point, other), numbers)
                self.alike(can_put(plan, point, other), bool(later or numbers))

    def test_a_later_time_at_the_same_place(self):
        plan = Plan("place a 2\nplace b 2")
        self.alike([can_put(plan, ("a", (1, 1)), ("a", time)) for time in ((1, 2), (2, 1), (1, 1), (0, 9), (9, 0))],
                   [True, True, False, False, False])
        self.alike([can_put(plan, ("a", (1, 1)), ("b", (9, 9))), lines_putting(plan, ("a", (1, 1)), ("a", (2, 2)))],
                   [False, ()])

    def test_a_line_from_a_place_to_itself(self):
        plan = Plan("place a 1\nline a a =0\nline a a +0\nline a a +2")
        self.alike([can_put(plan, ("a", (3,)), ("a", (at,))) for at in (0, 3, 5)], [True] * 3)
        self.alike([lines_putting(plan, ("a", (3,)), ("a", (at,))) for at in (2, 3, 4, 5)],
                   [(0,), (0, 1), (0, 1), (0, 1, 2)])

    def test_several_lines_between_two_places(self):
        plan = Plan("place a 1\nplace b 1\nline a b +2\nline b a +0\nline a b =4\nline a b +2")
        self.alike([lines_putting(plan, ("a", (1,)), ("b", (at,))) for at in (2, 3, 4)], [(), (0, 3), (0, 2, 3)])
        self.alike([can_put(plan, ("a", (1,)), ("b", (at,))) for at in (2, 3)], [False, True])
        self.alike(can_put(other=("a", (0,)), point=("b", (0,)), plan=plan), True)
        self.alike(lines_putting(other=("a", (0,)), point=("b", (0,)), plan=plan), (1,))

    def test_what_is_no_point_is_refused(self):
        for wrong in NO_POINTS:
            for function in (can_put, lines_putting):
                self.refuses(BadPoint, wrong, function, PLAN, wrong, ("a", (0,)))
                self.refuses(BadPoint, wrong, function, PLAN, ("a", (0,)), wrong)
                self.refuses(BadPoint, wrong, function, PLAN, wrong, ("d", None))


class Led(Case):

    def test_along_none_or_more_lines(self):
        plan = Plan("place d 1\nplace c 1\nplace b 1\nplace a 1\nline d c +0\nline c b +0\nline b c +0\nline a a +0")
        self.alike([led_places(plan, (name,)) for name in "abcd"], [("a",), ("b", "c"), ("b", "c"), ("b", "c", "d")])
        self.alike([led_places(plan, ("a", "c")), led_places(plan, ()), led_places(plan, ("a", "b", "c", "d"))],
                   [("a", "b", "c"), (), ("a", "b", "c", "d")])
        self.alike(led_places(places=("b",), plan=PLAN), ("a", "b", "c"))

    def test_a_long_way(self):
        plan = Plan(places_text(12) + "".join(f"\nline {a} {b} +0" for a, b in zip(LETTERS, LETTERS[1:12])))
        for at in range(12):
            self.alike(led_places(plan, (LETTERS[at],)), tuple(LETTERS[at:12]))

    def test_what_are_no_ascending_names_is_refused(self):
        for wrong in NEVER + (("b", "a"), ("a", "a"), ("a", "d"), ["a"], "a", "abc", ("a", ["b"]), ("a", None), ("A",),
                              ("a", "b", "b"), (("a",),), ("a", True), {"a": 1}):
            self.refuses(BadNames, wrong, led_places, PLAN, wrong)
