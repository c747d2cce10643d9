import unittest

from surejoin.errors import JoinError, NoLine
from surejoin.words import is_name, read_number
from tests.small import KEPT, refusal

LETTERS = "abcdefghijklmnopqrstuvwxyz"
OTHER_SIGNS = [chr(n) for n in range(32, 127) if chr(n) not in LETTERS and chr(n) != "%"] + ["\n"]
# A figure, a letter and a blank of other scripts, and two that Python's own tests take for figures.
FOREIGN = ("\u0663", "\u0967", "\uff15", "\u00b2", "\u2460", "\u00e9", "\u0430", "\u00a0", "\u00df")


class TestNames(unittest.TestCase):
    def check(self, text, is_one):
        with self.subTest(text=text):
            self.assertIs(is_name(text), is_one)

    def test_each_letter(self):
        self.assertEqual(len(LETTERS), 26)
        for letter in LETTERS:
            self.check(letter, True)
            self.check(letter * 8, True)
            self.check(letter * 9, False)

    def test_each_length(self):
        self.check("", False)
        for length in range(1, 9):
            self.check("zyxwvuts"[:length], True)
        for length in (9, 10, 26, 1000, 30000):
            self.check("q" * length, False)

    def test_kept_words(self):
        self.assertEqual(len(set(KEPT)), 26)
        for word in KEPT:
            self.check(word, False)
            self.check(word[1:], True)
            self.check(word[:-1], True)
            for letter in LETTERS:
                self.check(word + letter, True)
                self.check(letter + word, letter + word not in KEPT)

    def test_words_that_are_not_kept(self):
        for text in ("main", "num", "name", "steps", "picks", "box", "thread", "clash", "hangs", "none", "done", "pass"):
            self.check(text, True)

    def test_great_letters(self):
        for text in ("A", "Z", "Abc", "aBc", "abC", "ABC", "Most", "SET"):
            self.check(text, False)

    def test_other_signs_at_each_place(self):
        for sign in OTHER_SIGNS + list(FOREIGN):
            for text in (sign, sign + "ab", "a" + sign + "b", "ab" + sign, sign * 2, "abcdefg" + sign, "abcdefgh" + sign):
                self.check(text, False)

    def test_blanks_and_line_ends_round_a_name(self):
        for text in (" ", "  ", "a ", " a", "a b", "\n", "a\n", "\na", "abc\n", "abcdefgh\n", "most\n", "a\n\n", "a\r"):
            self.check(text, False)


class TestNumbers(unittest.TestCase):
    def check(self, text, number):
        told = read_number(text)
        self.assertIs(type(told), int)
        self.assertEqual(told, number)

    def check_refused(self, text):
        with self.subTest(text=text):
            self.assertIs(refusal(read_number, text), NoLine)
            self.assertIs(refusal(read_number, text), NoLine)

    def test_one_figure(self):
        for n in range(10):
            self.check(str(n), n)

    def test_each_count_of_figures(self):
        for length in range(1, 10):
            for figures in ("1" + "0" * (length - 1), "9" * length, "123456789"[:length], "987654321"[:length]):
                self.check(figures, int(figures))
        for text, number in (("10", 10), ("400", 400), ("100000000", 100000000), ("999999999", 999999999)):
            self.check(text, number)

    def test_noughts_within_and_behind(self):
        for text, number in (("101", 101), ("1001", 1001), ("900000009", 900000009), ("20", 20)):
            self.check(text, number)

    def test_more_than_nine_figures(self):
        for text in ("1000000000", "1111111111", "9999999999", "0123456789", "1" * 60, "9" * 5000, "0" * 10):
            self.check_refused(text)

    def test_noughts_ahead(self):
        for text in ("00", "01", "007", "000", "0000000000", "099999999", "00000001", "000000000"):
            self.check_refused(text)

    def test_no_sign_at_all(self):
        self.check_refused("")

    def test_other_signs_at_each_place(self):
        for sign in [" ", "  ", "\n", "\t", "\r", "+", "-", "_", ".", ",", "e", "x", "a", "O", "l", "~"] + list(FOREIGN):
            for text in (sign, sign + "1", "1" + sign, "1" + sign + "2", sign + "0", "0" + sign, "12345678" + sign):
                self.check_refused(text)

    def test_what_python_would_read(self):
        for text in ("1_000", "0x1", "0b1", "0o7", "1e3", "+1", "-1", "-0", "+0", " 1", "1 ", "1\n", "\n1", "--1"):
            self.check_refused(text)
        for text in ("\u0663", "\uff11", "1\u0663", "\u0967\u0968"):
            self.assertTrue(text.isdigit())
            self.check_refused(text)

    def test_letters(self):
        for text in ("x", "abc", "div", "size", "num", "None", "True"):
            self.check_refused(text)

    def test_each_other_sign_by_itself(self):
        for n in range(128):
            if not 48 <= n <= 57:
                self.check_refused(chr(n))

    def test_the_refusal_is_a_join_error_and_a_value_error(self):
        for kind in (NoLine, JoinError, ValueError):
            with self.assertRaises(kind):
                read_number("01")


if __name__ == "__main__":
    unittest.main()
