import inspect
import unittest

from paneworks import texts as module
from paneworks.errors import NoRow
from paneworks.places import is_whole
from paneworks.texts import read_name, read_number, show_numbers

ARGUMENTS = {"read_number": ["text"], "read_name": ["text"], "show_numbers": ["numbers"]}
NO_TEXTS = [None, True, False, 0, 1, -5, 10 ** 70, [], ["1"], ["a"], ("1",), ("a",), (), {}, {"a": 1}, b"1", b"a", 1.0]


class TextsCase(unittest.TestCase):
    def assert_no_row(self, deed, handed):
        with self.subTest(handed=repr(handed)[:80]):
            with self.assertRaises(NoRow) as caught:
                deed(handed)
            self.assertIs(caught.exception.__class__, NoRow)


class InterfaceTest(unittest.TestCase):
    def test_names_and_arguments(self):
        for name, arguments in ARGUMENTS.items():
            self.assertEqual(list(inspect.signature(getattr(module, name)).parameters), arguments)


class NumberTest(TextsCase):
    def test_numbers(self):
        for number in [0, 1, -1, 9, 10, -10, 123, 1001, 10 ** 59, 10 ** 60 - 1, 1 - 10 ** 60, -10 ** 59,
                       1234567890 * 10 ** 40]:
            told = read_number(str(number))
            self.assertEqual(told, number)
            self.assertIs(is_whole(told), True)

    def test_each_figure(self):
        for figure in range(10):
            self.assertEqual(read_number(f"1{figure}"), 10 + figure)
            self.assertEqual(read_number(f"{figure}"), figure)

    def test_near_ones(self):
        for text in [
            "", " ", "-", "--1", "-0", "00", "01", "-01", "000", "0012", "+1", "+0", "-+1", "+-1", "1-", "1-1", "1+1",
            " 1", "1 ", "1 2", "- 1", " -1", "-1 ", "1\n", "\n1", "-1\n", "0\n", "1\t", "1\r", "1\x00", "1\x0b", "\x1c1",
            "1_0", "1_000", "_1", "1,0", "1.0", "1.", ".1", "1e3", "0x1", "0b1", "0o7", "1f", "a", "one", "None", "True",
            "1a", "a1", "x", "1x", "x1", "'1'", "1\u00a0", "\u20031", "1\u2028", "1\x85",
        ]:
            self.assert_no_row(read_number, text)

    def test_other_figures(self):
        for figure in ["\u0663", "\u0660", "\u00b2", "\u00b9", "\uff11", "\u0967", "\u2460", "\u00bd", "\U0001d7cf",
                       "\u4e00", "\u07c1"]:
            for text in (figure, "1" + figure, figure + "1", "-" + figure):
                self.assert_no_row(read_number, text)
        for text in ["\u22121", "\u20101", "\uff0d1", "\ufe631"]:
            self.assert_no_row(read_number, text)

    def test_sixty_figures_and_more(self):
        for first in "19":
            for sign in ("", "-"):
                self.assertEqual(read_number(sign + first * 60), int(sign + first * 60))
                self.assertEqual(read_number(sign + first + "0" * 59), int(sign + first + "0" * 59))
                for many in (61, 62, 100, 5000):
                    self.assert_no_row(read_number, sign + first * many)
                    self.assert_no_row(read_number, sign + first + "0" * (many - 1))
        self.assert_no_row(read_number, "0" * 60)
        self.assert_no_row(read_number, "0" * 61)
        self.assert_no_row(read_number, "0" + "1" * 60)

    def test_no_texts(self):
        for thing in NO_TEXTS:
            self.assert_no_row(read_number, thing)


class NameTest(TextsCase):
    def test_names(self):
        for name in ["a", "z", "az", "abcdefgh", "zzzzzzzz", "ijklmnop", "qrstuvwx", "y", "ok", "own"]:
            told = read_name(name)
            self.assertEqual(told, name)
            self.assertIs(told.__class__, str)

    def test_near_ones(self):
        for text in [
            "", " ", "abcdefghi", "a" * 9, "a" * 1000, "A", "Ab", "aB", "Z", "a1", "1", "1a", "a_", "_", "a-b", "a.b",
            " a", "a ", "a b", "a\n", "\na", "a\t", "a\x00", "a\r", "abcdefgh\n", "`", "{", "@", "[", "/",
        ]:
            self.assert_no_row(read_name, text)

    def test_other_letters(self):
        for letter in ["\u00e4", "\u00df", "\uff41", "\u00aa", "\u017f", "\u0131", "\u0430", "\u03b1", "\U0001d41a",
                       "\u24d0", "\u02b0", "\u212a", "\ufb01", "e\u0301"]:
            for text in (letter, "a" + letter, letter + "a"):
                self.assert_no_row(read_name, text)

    def test_no_texts(self):
        for thing in NO_TEXTS:
            self.assert_no_row(read_name, thing)


class ShowTest(unittest.TestCase):
    def test_numbers_parted_by_single_blanks(self):
        for numbers, text in [([], ""), ([0], "0"), ([-5], "-5"), ([1, 2, 3], "1 2 3"), ([0, -1, 10], "0 -1 10"),
                              ([10 ** 60 - 1, 1 - 10 ** 60], "9" * 60 + " -" + "9" * 60)]:
            handed = list(numbers)
            self.assertEqual(show_numbers(handed), text)
            self.assertEqual(handed, numbers)

    def test_they_are_read_again(self):
        numbers = [0, 7, -7, 10 ** 59, 1 - 10 ** 60]
        self.assertEqual([read_number(word) for word in show_numbers(numbers).split(" ")], numbers)


if __name__ == "__main__":
    unittest.main()
