import unittest
from copy import deepcopy
from itertools import product

from surejoin.errors import JoinError, NoLine
from surejoin.words import read_expression, shown_expression
from tests.small import KEPT, TOP, WORKINGS, deep_texts, plain_parts, refusal

SEVEN = ("num", 7)
X = ("name", "x")

PLAIN = [
    ("0", ("num", 0)),
    ("7", SEVEN),
    ("999999999", ("num", TOP)),
    ("x", X),
    ("main", ("name", "main")),
    ("num", ("name", "num")),
    ("abcdefgh", ("name", "abcdefgh")),
    ("size b", ("size", "b")),
    ("held b", ("held", "b")),
    ("has b 7", ("has", "b", SEVEN)),
    ("item b x", ("item", "b", X)),
    ("size x", ("size", "x")),
    ("item x x", ("item", "x", X)),
    ("item b item b 7", ("item", "b", ("item", "b", SEVEN))),
    ("has abcdefgh size q", ("has", "abcdefgh", ("size", "q"))),
    ("+ size b held b", ("+", ("size", "b"), ("held", "b"))),
    ("+ - 7 x * x 7", ("+", ("-", SEVEN, X), ("*", X, SEVEN))),
    ("< = 7 7 rem x 7", ("<", ("=", SEVEN, SEVEN), ("rem", X, SEVEN))),
    ("- 7 - x 7", ("-", SEVEN, ("-", X, SEVEN))),
    ("- - 7 x 7", ("-", ("-", SEVEN, X), SEVEN)),
    ("div has b + x 7 item c x", ("div", ("has", "b", ("+", X, SEVEN)), ("item", "c", X))),
]
VOCABULARY = ("0", "12", "x", "b", "+", "div", "<", "size", "held", "has", "item", "let", "01", "")
ATOMS = ("0", "12", "x", "b")


def written(length):
    """All rows of so many words of the vocabulary that are an expression, straight from how these are written."""
    if length == 1:
        return [(atom,) for atom in ATOMS]
    rows = []
    if length == 2:
        rows += [(look, box) for look in ("size", "held") for box in ("x", "b")]
    if length > 2:
        rows += [(look, box) + part for look in ("has", "item") for box in ("x", "b") for part in written(length - 2)]
    for left in range(1, length - 1):
        for word, one, other in product(("+", "div", "<"), written(left), written(length - 1 - left)):
            rows.append((word,) + one + other)
    return rows


class TestReadAndShown(unittest.TestCase):
    def check(self, text, E):
        with self.subTest(text=text):
            told = read_expression(text)
            self.assertEqual(told, E)
            self.assertEqual(plain_parts(told), plain_parts(E))
            self.assertEqual(shown_expression(E), text)
            self.assertIs(type(shown_expression(E)), str)

    def test_plain_ones(self):
        for text, E in PLAIN:
            self.check(text, E)

    def test_each_working(self):
        for word in WORKINGS:
            self.check(f"{word} 7 x", (word, SEVEN, X))
            self.check(f"{word} x {word} 7 7", (word, X, (word, SEVEN, SEVEN)))
            self.check(f"{word} {word} 7 7 x", (word, (word, SEVEN, SEVEN), X))

    def test_each_look_in_each_working_and_look(self):
        looks = [("size b", ("size", "b")), ("held b", ("held", "b")), ("has b x", ("has", "b", X))]
        for text, E in looks + [("item b 7", ("item", "b", SEVEN))]:
            self.check(text, E)
            for word in WORKINGS:
                self.check(f"{word} {text} {text}", (word, E, E))
            for look in ("has", "item"):
                self.check(f"{look} c {text}", (look, "c", E))

    def test_names_like_kept_words_but_for_a_letter(self):
        for word in KEPT:
            self.check(word[1:], ("name", word[1:]))
            self.check(f"size {word[1:]}", ("size", word[1:]))
            self.check(f"+ {word}s {word[1:]}", ("+", ("name", word + "s"), ("name", word[1:])))

    def test_each_depth_there_and_back(self):
        for deep in range(6):
            for text in deep_texts(deep):
                E = read_expression(text)
                self.assertEqual(shown_expression(E), text)
                self.check(text, E)

    def test_five_deep_part_by_part(self):
        left = right = X
        for level in range(5):
            left, right = ("+", left, ("num", 1)), ("-", ("num", 1), right)
        self.check("+ + + + + x 1 1 1 1 1", left)
        self.check("- 1 - 1 - 1 - 1 - 1 x", right)

    def test_a_look_without_expressions_is_not_deep(self):
        self.check("item b item b item b item b item b size b", read_expression("item b " * 5 + "size b"))
        self.assertIs(refusal(read_expression, "item b " * 6 + "size b"), NoLine)
        self.check("+ + + + + held b 1 1 1 1 1", read_expression("+ " * 5 + "held b" + " 1" * 5))

    def test_all_rows_of_few_words(self):
        for length in range(1, 5):
            right = written(length)
            self.assertEqual(len(set(right)), len(right))
            right = dict.fromkeys(" ".join(row) for row in right)
            for row in product(VOCABULARY, repeat=length):
                text = " ".join(row)
                if text in right:
                    self.assertEqual(shown_expression(read_expression(text)), text)
                else:
                    self.assertIs(refusal(read_expression, text), NoLine, text)

    def test_longer_rows_are_unlike_expressions(self):
        rows = written(5) + written(6)
        told = [read_expression(" ".join(row)) for row in rows]
        self.assertEqual(len(set(told)), len(rows))
        self.assertEqual([shown_expression(E) for E in told], [" ".join(row) for row in rows])

    def test_shown_beyond_the_bounds(self):
        E = ("num", 1000000000)
        for level in range(20):
            E = ("+", E, ("item", "b", E)) if level < 3 else ("*", SEVEN, E)
        text = shown_expression(E)
        self.assertEqual(text.count("*"), 17)
        self.assertEqual(text.count("1000000000"), 8)

    def test_what_is_shown_stays_as_it_was_and_is_shown_alike(self):
        for text, E in PLAIN:
            before = deepcopy(E)
            self.assertEqual(shown_expression(E), shown_expression(E))
            self.assertEqual(E, before)


class TestRefused(unittest.TestCase):
    def check(self, texts):
        for text in texts:
            with self.subTest(text=text):
                self.assertIs(refusal(read_expression, text), NoLine)
                self.assertIs(refusal(read_expression, text), NoLine)

    def test_too_deep(self):
        for deep in (6, 7, 8):
            self.check(deep_texts(deep))
        self.check(["+ 1 " * 6 + "1", "+ " * 6 + "1" + " 1" * 6, "+ 1 " * 1000 + "1", "+ " * 1000 + "1" + " 1" * 1000])
        self.check(["+ " * 14000, "item b " * 4000 + "1", "= size b " * 6 + "1", "+ + 1 1 " + "* 1 " * 5 + "1"])

    def test_too_deep_on_one_side_alone(self):
        for deep in range(6):
            for text in deep_texts(deep):
                fits = deep < 5
                for whole in (f"+ {text} 1", f"+ 1 {text}", f"has b {text}", f"item b {text}"):
                    self.assertIs(refusal(read_expression, whole), None if fits else NoLine, whole)

    def test_words_lack_at_the_end(self):
        for text in [text for text, E in PLAIN] + deep_texts(5):
            words = text.split(" ")
            self.check([" ".join(words[:length]) for length in range(1, len(words))])

    def test_words_too_many_behind(self):
        for text in [text for text, E in PLAIN] + deep_texts(5):
            self.check([f"{text} {more}" for more in ("1", "x", "size b", "+", "+ 1 2", "let", "b", "?", text)])

    def test_kept_words_and_others_in_the_place_of_a_box(self):
        for word in KEPT + list(WORKINGS) + ["0", "7", "12", "", "B", "b1", "abcdefghi", "num1", "(b)"]:
            self.check([f"size {word}", f"held {word}", f"has {word} 1", f"item {word} x", f"+ 1 size {word}"])

    def test_kept_words_in_the_place_of_an_expression(self):
        for word in KEPT:
            if word not in ("size", "held", "has", "item", "div", "rem"):
                self.check([word, f"+ {word} 1", f"+ 1 {word}", f"has b {word}", f"{word} 1 2", f"{word} b", f"{word} b 1"])

    def test_words_by_themselves(self):
        self.check(list(WORKINGS) + ["size", "held", "has", "item", "has 1", "item 1", "size 1"])

    def test_a_look_without_its_box(self):
        self.check(["has 7", "item 7", "has + 1 2", "item size b", "+ size held b", "has has b 1", "size", "+ 1 held"])

    def test_words_that_are_none(self):
        for word in ("X", "Size", "x1", "1x", "01", "00", "-1", "+1", "1.5", "1000000000", "abcdefghi", "?", "==", "<=",
                     ">", "/", "mod2", "++", "x_y", "(", "\u0663", "\u00e9", "'x'", "None?"):
            self.check([word, f"{word} 1 2", f"+ {word} 1", f"+ 1 {word}", f"has b {word}"])

    def test_blanks_and_line_ends(self):
        for text in ("x", "7", "+ 1 2", "size b", "has b 1"):
            self.check([f" {text}", f"{text} ", f"  {text}", f"{text}\n", f"\n{text}", f"{text}\t", f"\t{text}", f"{text}\r"])
            if " " in text:
                self.check([text.replace(" ", "  "), text.replace(" ", "  ", 1), text.replace(" ", "\n"),
                            text.replace(" ", "\t"), text.replace(" ", "\n", 1), text.replace(" ", "\u00a0")])
        self.check(["", " ", "  ", "\n", "+ 1  2", "+  1 2", "+ 1 2 ", " + 1 2"])

    def test_the_refusal_is_a_join_error_and_a_value_error(self):
        for kind in (NoLine, JoinError, ValueError):
            with self.assertRaises(kind):
                read_expression("+ 1")


if __name__ == "__main__":
    unittest.main()
