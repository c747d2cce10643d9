import unittest
from itertools import product

from surejoin.errors import NoLine
from surejoin.lines import read_line, shown_line
from tests.small import KEPT, KINDS, WORKINGS, deep_texts, plain_parts, refusal

ONE = ("num", 1)
X = ("name", "x")
SUM = ("+", ONE, X)
SIZE = ("size", "b")

LINES = [
    ("most a", ("most", 7, "a")),
    ("set abcdefgh", ("set", 7, "abcdefgh")),
    ("once main", ("once", 7, "main")),
    ("row b", ("row", 7, "b")),
    ("map b", ("map", 7, "b")),
    ("job main", ("job", 7, "main", [])),
    ("job f a", ("job", 7, "f", ["a"])),
    ("job f d c b a", ("job", 7, "f", ["d", "c", "b", "a"])),
    ("job f f f", ("job", 7, "f", ["f", "f"])),
    ("let x 1", ("let", 7, "x", ONE)),
    ("let x + 1 x", ("let", 7, "x", SUM)),
    ("put b 1", ("put", 7, "b", [ONE])),
    ("put b 1 + 1 x", ("put", 7, "b", [ONE, SUM])),
    ("put b size b x + 1 x 1", ("put", 7, "b", [SIZE, X, SUM, ONE])),
    ("wait b least 1", ("wait", 7, "b", "least", ONE)),
    ("wait b has x", ("wait", 7, "b", "has", X)),
    ("wait b many + 1 x", ("wait", 7, "b", "many", SUM)),
    ("wait b has has b 1", ("wait", 7, "b", "has", ("has", "b", ONE))),
    ("get x b", ("get", 7, "x", "b", None)),
    ("get x b 1", ("get", 7, "x", "b", ONE)),
    ("get b x size b", ("get", 7, "b", "x", SIZE)),
    ("tell 1", ("tell", 7, ONE)),
    ("tell + 1 x", ("tell", 7, SUM)),
    ("if x", ("if", 7, X)),
    ("else", ("else", 7)),
    ("while + 1 x", ("while", 7, SUM)),
    ("end", ("end", 7)),
    ("begin f 1", ("begin", 7, "f", ONE, [])),
    ("begin f + 1 x x", ("begin", 7, "f", SUM, [X])),
    ("begin main 1 x size b + 1 x 1", ("begin", 7, "main", ONE, [X, SIZE, SUM, ONE])),
    ("stop", ("stop", 7)),
    ("ask size b", ("ask", 7, SIZE)),
    ("ask 1", ("ask", 7, ONE)),
]
FIRST_WORDS = KINDS + ("job", "let", "put", "wait", "get", "tell", "if", "else", "while", "end", "begin", "stop", "ask")
NO_NAMES = KEPT + list(WORKINGS) + ["0", "1", "12", "A", "aB", "a1", "a_b", "abcdefghi", "?", ""]


class TestLines(unittest.TestCase):
    def check(self, text, line):
        with self.subTest(text=text):
            told = read_line(text, line[1])
            self.assertEqual(told, line)
            self.assertEqual(plain_parts(told), plain_parts(line))
            self.assertEqual(shown_line(told), text)

    def check_refused(self, texts):
        for text in texts:
            with self.subTest(text=text):
                self.assertIs(refusal(read_line, text, 1), NoLine)

    def test_each_sort_of_line(self):
        self.assertEqual(sorted({text.split(" ")[0] for text, line in LINES}), sorted(FIRST_WORDS))
        for text, line in LINES:
            self.check(text, line)

    def test_the_number_is_that_handed_in(self):
        for number in (1, 2, 150):
            for text, line in LINES:
                self.check(text, (line[0], number) + line[2:])

    def test_names_at_each_place(self):
        for name in ("a", "abcdefgh", "main", "mos", "sets", "num", "none"):
            texts = [f"{kind} {name}" for kind in KINDS] + [f"job {name}", f"job f {name}", f"job f a b c {name}"]
            texts += [f"let {name} 1", f"put {name} 1", f"wait {name} many 1", f"get {name} b", f"get x {name}"]
            texts += [f"get x {name} 1", f"get {name} b 1", f"begin {name} 1", f"begin {name} 1 2"]
            for text in texts:
                self.assertEqual(shown_line(read_line(text, 1)), text)

    def test_what_is_no_name_at_each_place(self):
        for word in NO_NAMES:
            self.check_refused([f"{kind} {word}" for kind in KINDS] + [f"job {word}", f"job f {word}", f"job f a {word}"])
            self.check_refused([f"job f a b c {word}", f"job {word} a", f"let {word} 1", f"put {word} 1"])
            self.check_refused([f"wait {word} many 1", f"get {word} b", f"get x {word}", f"get {word} b 1"])
            self.check_refused([f"get x {word} 1", f"begin {word} 1", f"begin {word} 1 2"])

    def test_a_word_too_few(self):
        self.check_refused(KINDS)
        self.check_refused(["put b", "begin f", "get x", "let x", "wait b has", "wait b", "tell", "if", "while", "ask", "job"])
        self.check_refused(["let x +", "let x + 1", "put b 1 +", "tell size", "if < 1", "begin f +", "begin f 1 + 1"])

    def test_a_word_too_many(self):
        for text in KINDS:
            self.check_refused([f"{text} b 1", f"{text} b b", f"{text} b {text} b"])
        for text in ("let x 1", "wait b many 1", "get x b 1", "tell 1", "if 1", "while 1", "ask 1", "else", "end", "stop"):
            self.check_refused([f"{text} {more}" for more in ("1", "x", "+ 1 1", "size b", "end", "if 1", text, "?")])

    def test_more_than_four(self):
        self.check_refused(["job f a b c d e", "job f a a a a a", "job f a b c d e f", "job f " + "a " * 999 + "a"])
        self.check_refused(["put b 1 2 3 4 5", "put b x x x x x", "put b + 1 2 + 1 2 + 1 2 + 1 2 + 1 2"])
        self.check_refused(["begin f 1 2 3 4 5 6", "begin f x + 1 2 + 1 2 + 1 2 + 1 2 + 1 2", "put b " + "1 " * 999 + "1"])

    def test_words_of_waits(self):
        for word in KEPT + ["more", "x", "1", "", "+", "Least"]:
            fits = word in ("least", "has", "many")
            self.assertIs(refusal(read_line, f"wait b {word} 1", 1), None if fits else NoLine, word)

    def test_expressions_at_each_place_as_deep_as_they_may_be(self):
        heads = ("let x", "put b", "put b 1", "put b 1 2 3", "wait b many", "get x b", "tell", "if", "while", "begin f",
                 "begin f 1", "begin f 1 2 3 4", "ask")
        for head, deep in product(heads, (0, 1, 5, 6)):
            for E in deep_texts(deep):
                text = f"{head} {E}"
                if deep <= 5:
                    self.assertEqual(shown_line(read_line(text, 1)), text)
                else:
                    self.check_refused([text])

    def test_first_words(self):
        self.check_refused(["", " ", "x", "x 1", "1", "+ 1 2", "size b", "has b 1", "least 1", "main", "Job main", "JOB f"])
        for word in KEPT:
            if word not in FIRST_WORDS:
                self.check_refused([word, f"{word} b", f"{word} b 1", f"{word} 1 2"])
        for text, line in LINES:
            self.check_refused([text[1:], text.upper(), "x" + text, "let " + text, "end " + text])

    def test_blanks_and_other_signs(self):
        for text, line in LINES:
            self.check_refused([f" {text}", f"{text} ", f"{text}\t", f"\t{text}", f"{text}\n", f"\n{text}", f"{text}\r"])
            self.check_refused([f"{text}.", f"{text};", f"# {text}", f"{text} # why"])
            if " " in text:
                self.check_refused([text.replace(" ", "  ", 1), text.replace(" ", "\t", 1), text.replace(" ", "\n", 1)])
                self.check_refused(["  ".join(text.rsplit(" ", 1)), text.replace(" ", ""), text.replace(" ", ",")])

    def test_lists_that_are_told_are_new(self):
        for text in ("job f a b", "put b 1 2", "begin f 1 2 3"):
            first = read_line(text, 3)
            first[-1].clear()
            self.assertEqual(shown_line(read_line(text, 3)), text)

    def test_a_line_that_is_shown_stays_as_it_was(self):
        for text, line in LINES:
            before = read_line(text, 7)
            shown_line(line)
            self.assertEqual(line, before)


if __name__ == "__main__":
    unittest.main()
