"""What an integer, a name, a number in a text, a point in a text is (section 2)."""

from support import NEVER, Case
from timesover.basics import is_among, is_from_nought, is_integer, is_long_numeral, is_name, is_numeral
from timesover.plans import Plan
from timesover.texts import point_words, told_point


class Kinds(Case):

    def test_integers(self):
        for value in (0, 1, -1, 10 ** 39, -10 ** 39):
            self.alike([is_integer(value), is_from_nought(value)], [True, value >= 0])
        for wrong in NEVER + ((), (1,)):
            if type(wrong) is not int:
                self.alike([is_integer(wrong), is_from_nought(wrong)], [False, False])

    def test_names(self):
        for value in ("a", "z", "abcdefgh", "zzzzzzzz"):
            self.alike(is_name(value), True)
        for wrong in ("", "abcdefghi", "A", "a b", "a\n", "a1", "0", "-", "a" * 10000, ("a",), ["a", "b"], ("a", "b"),
                      None, True, 1, (), {"a": 1}):
            self.alike(is_name(wrong), False)

    def test_numerals(self):
        for text in ("0", "1", "9", "10", "999999999"):
            self.alike(is_numeral(text), True)
        for wrong in ("", "00", "01", "1000000000", "-1", "+1", " 1", "1 ", "1.0", "1_0", "a", "1\n", "/", ":"):
            self.alike(is_numeral(wrong), False)

    def test_long_numerals(self):
        for most in (1, 9, 40):
            for text, can_be in (("0", True), ("7" * most, True), ("7" * (most + 1), False), ("07", False), ("", False),
                                 ("-1", False), ("1 ", False)):
                self.alike(is_long_numeral(text, most), can_be)

    def test_one_of_some_numbers(self):
        for value in (0, 1, 5):
            self.alike([is_among(value, (0, 1, 5)), is_among(value, {0: 1, 1: 1, 5: 1}), is_among(value, (2,))],
                       [True, True, False])
        for wrong in (True, False, None, "1", (1,), [1], {}, -1, 2):
            self.alike(is_among(wrong, (0, 1, 5)), False)

    def test_points_in_texts(self):
        plan = Plan("place a 1\nplace put 2")
        for point in (("a", (0,)), ("put", (3, 10 ** 8)), ("a", (10 ** 39,))):
            self.alike(told_point(plan, point_words(point).split(" "), 40), point)
        for text in ("", "a", "a 0 0", "put 0", "put 0 00", "b 0", "a -1", "a x", "a  0", "0", "a 0 ", "a 1234567890"):
            self.alike(told_point(plan, text.split(" "), 9), None)
        self.alike([told_point(plan, [], 9), point_words(("put", (1, 20)))], [None, "put 1 20"])
