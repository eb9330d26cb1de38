"""What an integer, a name, a number in a text is (section 2)."""

from support import NEVER, Case
from timesover.basics import is_from_nought, is_integer, is_name, is_numeral


class Kinds(Case):

    def test_integers(self):
        for value in (0, 1, -1, 10 ** 39, -10 ** 39):
            self.alike([is_integer(value), is_from_nought(value)], [True, value >= 0])
        for wrong in NEVER + ((), (1,)):
            if type(wrong) is not int:
                self.alike([is_integer(wrong), is_from_nought(wrong)], [False, False])

    def test_names(self):
        for value in ("a", "z", "abcdefgh", "zzzzzzzz"):
            self.alike(is_name(value), True)
        for wrong in ("", "abcdefghi", "A", "a b", "a\n", "a1", "0", "-", "a" * 10000, ("a",), ["a", "b"], ("a", "b"),
                      None, True, 1, (), {"a": 1}):
            self.alike(is_name(wrong), False)

    def test_numerals(self):
        for text in ("0", "1", "9", "10", "999999999"):
            self.alike(is_numeral(text), True)
        for wrong in ("", "00", "01", "1000000000", "-1", "+1", " 1", "1 ", "1.0", "1_0", "a", "1\n", "/", ":"):
            self.alike(is_numeral(wrong), False)
