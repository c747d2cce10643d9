import unittest

from surejoin.errors import JoinError, NoKind, NoLine, NoName, NoNest, TooMuch
from surejoin.texts import read
from tests.small import KEPT, KINDS, refusal

BAD_LINES = """nonsense
x
1
most
most b c
most 1
Most b
most abcdefghi
set set
job
job 1
job f 1
job f a b c d e
job main let
let x
let 1 2
let x 1 2
let wait 1
let x + 1
let x 01
put
put q
put q 1 2 3 4 5
put q +
wait q
wait q least
wait q held 1
wait q item 1
wait q has
wait q many 1 2
get
get x
get x q 1 2
get x 1
tell
tell 1 2
tell size
tell size 1
tell put
if
if 1 2
else 1
else if 1
else else
while
while +
end 1
end end
end if
begin
begin f
begin 1 2
begin f 1 2 3 4 5 6
begin f size
stop 1
stop stop
ask
ask 1 2
ask has q
ask least q 1
has q 1
+ 1 2
# why
let x + + + + + + 1 1 1 1 1 1 1
let x - 1 - 1 - 1 - 1 - 1 - 1 1
ask item q item q item q item q item q item q 1
put q 1 + + + + + + 1 1 1 1 1 1 1""".split("\n") + [
    "", " ", "end ", " end", "let  x 1", "let x  1", "let x 1 ", " let x 1", "stop ", "else ", "job main ", "tell 1\t", "end\r",
]
OTHER_FAULTS = [
    ("stop\njob main\nend", NoNest),
    ("job main\nend\nmost b", NoNest),
    ("job main\nelse\nend", NoNest),
    ("job main\nend\nend", NoNest),
    ("most b\nset b\njob main\nend", NoName),
    ("job f\nend", NoName),
    ("job main a\nend", NoName),
    ("job main\nput q 1\nend", NoName),
    ("job main\nbegin main 1\nend", NoName),
    ("most b\njob main\nput b 1 2\nend", NoKind),
    ("most b\njob main\nget x b\nend", NoKind),
    ("most b\njob main\nend\nask has b 1", NoKind),
]
GOOD = "most b\njob main\nif 1\ntell 1\nend\nend\nask held b"


class TestNoLine(unittest.TestCase):
    def check(self, *texts):
        for text in texts:
            with self.subTest(text=text):
                self.assertIs(refusal(read, text), NoLine)
                self.assertIs(refusal(read, text), NoLine)

    def test_a_text_without_signs(self):
        self.check("")

    def test_lines_without_signs(self):
        self.check("\n", "\n\n", "\njob main\nend", "job main\n\nend", "job main\nend\n", "job main\nend\n\nask 1",
                   "job main\nend\nask 1\n", "most b\n\njob main\nend", "job main\nend\n\n", "\n" * 149)

    def test_other_line_ends(self):
        self.check("job main\r\nend", "job main\rend", "job main\nend\r", "job main\x0bend", "job main\x0cend",
                   "job main\u2028end", "job main\x1cend", "job main\x85end", "job main end", "job main;end")

    def test_bad_lines_at_each_place(self):
        lines = GOOD.split("\n")
        self.assertIsNone(refusal(read, GOOD))
        for bad in BAD_LINES:
            for place in range(len(lines) + 1):
                self.check("\n".join(lines[:place] + [bad] + lines[place:]))
            self.check(bad)

    def test_kept_words_as_names(self):
        for word in KEPT:
            for kind in KINDS:
                self.check(f"{kind} {word}\njob main\nend")
            self.check(f"job {word}\nend\njob main\nend", f"job f {word}\nend\njob main\nend")
            for line in (f"let {word} 1", f"put {word} 1", f"wait {word} many 1", f"get {word} b", f"get x {word}",
                         f"begin {word} 1", f"tell size {word}"):
                self.check(f"once b\njob main\n{line}\nend")

    def test_due_ahead_of_all_but_too_much(self):
        for text, due in OTHER_FAULTS:
            self.assertIs(refusal(read, text), due, text)
            for bad in BAD_LINES:
                lines = text.split("\n")
                self.check(f"{bad}\n{text}", f"{text}\n{bad}", "\n".join(lines[:1] + [bad] + lines[1:]))

    def test_the_refusal_is_a_join_error_and_a_value_error(self):
        for kind in (NoLine, JoinError, ValueError):
            with self.assertRaises(kind):
                read("")


class TestTooMuch(unittest.TestCase):
    def check(self, *texts):
        for text in texts:
            with self.subTest(text=text[:40]):
                self.assertIs(refusal(read, text), TooMuch)
                self.assertIs(refusal(read, text), TooMuch)

    def test_150_lines_are_read_and_151_are_not(self):
        for line in ("stop", "let x 1", "tell + 1 x"):
            rows = [line] * 148
            self.assertIsNone(refusal(read, "\n".join(["job main"] + rows + ["end"])))
            self.check("\n".join(["job main"] + rows + [line, "end"]))
            self.check("\n".join(["job main"] + rows + ["end", ""]))
        self.check("job main\nend" + "\nask 1" * 149, "job main\n" + "stop\n" * 500 + "end")

    def test_whatever_else_is_wrong(self):
        self.check("\n" * 150, "\n" * 29999, "nonsense\n" * 150, "end\n" * 151, "stop\n" * 150 + "stop", "most b\n" * 150 + "x")
        for text, due in OTHER_FAULTS:
            lines = text.count("\n") + 1
            self.assertIs(refusal(read, text + "\n" * (150 - lines)), NoLine)
            self.check(text + "\n" * (151 - lines), text + "\nask 1" * (151 - lines))
        for bad in BAD_LINES:
            self.check("\n".join([bad] * 151))
            self.assertIs(refusal(read, "\n".join([bad] * 150)), NoLine)

    def test_the_refusal_is_a_join_error_and_a_value_error(self):
        for kind in (TooMuch, JoinError, ValueError):
            with self.assertRaises(kind):
                read("\n" * 150)


class TestTheLineIsTold(unittest.TestCase):
    def test_the_number_of_the_line_stands_first(self):
        for text, number in (
            ("job main\nnonsense\nend", 2),
            ("job main\nend\n", 3),
            ("job main\ntell 1 2\nend", 2),
            ("job main\nend\nstop", 3),
            ("job main\nif 1\nend", 4),
            ("job main\nwhile 1\nelse\nend\nend", 3),
            ("job main\nif 1\nif 1\nif 1\nif 1\nif 1\nend\nend\nend\nend\nend\nend", 6),
            ("job main\nstop\nbegin main 1\nend", 3),
            ("job f\nend\njob main\nbegin f 1 2\nend", 4),
            ("job main\nstop\nstop\nput b 1\nend", 4),
            ("job main\nend\nask size b", 3),
            ("most b\njob main\nput b 1 2\nend", 3),
            ("most b\njob main\nend\nask 1\nask has b 1", 5),
        ):
            with self.assertRaises(JoinError) as told:
                read(text)
            self.assertTrue(str(told.exception).startswith(f"line {number}: "), (text, told.exception))


if __name__ == "__main__":
    unittest.main()
