import unittest
from itertools import product

from surejoin.errors import NoNest
from surejoin.texts import read
from tests.small import KINDS, refusal

WORDS = ("most b", "job main", "if 1", "else", "while 1", "end", "stop", "ask 1")
OTHERS = ("let x 1", "put b 1", "wait b many 1", "get x b", "tell 1", "if 1", "else", "while 1", "end", "begin f 1", "stop")


def is_badly_nested(lines):
    """Each case of a bad nest, one by one over a stack of what is open."""
    opened, seen_job, seen_ask = [], False, False
    for line in lines:
        word = line.split(" ")[0]
        if word in KINDS:
            if seen_job or seen_ask:
                return True
        elif word == "job":
            if opened or seen_ask:
                return True
            opened.append("job")
            seen_job = True
        elif word == "ask":
            if opened:
                return True
            seen_ask = True
        elif not opened:
            return True
        elif word == "else":
            if opened[-1] != "if":
                return True
            opened[-1] = "if with else"
        elif word == "end":
            opened.pop()
        elif word in ("if", "while"):
            if len(opened) == 5:
                return True
            opened.append(word)
    return bool(opened)


class TestNests(unittest.TestCase):
    def check(self, *texts):
        for text in texts:
            with self.subTest(text=text):
                self.assertTrue(is_badly_nested(text.split("\n")))
                self.assertIs(refusal(read, text), NoNest)
                self.assertIs(refusal(read, text), NoNest)

    def test_a_box_behind_a_job_or_an_ask(self):
        for kind in KINDS:
            self.check(f"job main\nend\n{kind} b", f"job main\nend\n{kind} b\nask 1", f"ask 1\n{kind} b\njob main\nend",
                       f"job main\n{kind} b\nend", f"job main\nif 1\n{kind} b\nend\nend", f"job main\nend\nask 1\n{kind} b",
                       f"most a\njob main\nend\n{kind} b", f"{kind} b\njob f\nend\n{kind} c\njob main\nend")

    def test_a_job_within_a_job(self):
        self.check("job main\njob f\nend\nend", "job main\njob f\nend", "job main\nstop\njob f\nend\nend",
                   "job main\nif 1\njob f\nend\nend\nend", "job f\nwhile 1\nend\njob main\nend\nend")

    def test_a_job_behind_an_ask(self):
        self.check("ask 1\njob main\nend", "job main\nend\nask 1\njob f\nend", "most b\nask 1\njob main\nend")

    def test_an_ask_within_a_job(self):
        self.check("job main\nask 1\nend", "job main\nif 1\nask 1\nend\nend", "job main\nwhile 1\nask 1\nend\nend\nask 1",
                   "job f\nask 1\nend\njob main\nend", "job main\nstop\nask 1")

    def test_another_line_outside_all_jobs(self):
        for line in OTHERS:
            self.check(line, f"{line}\njob main\nend", f"job main\nend\n{line}", f"job f\nend\n{line}\njob main\nend",
                       f"most b\n{line}\njob main\nend", f"job main\nend\nask 1\n{line}", f"job main\nend\n{line}\nask 1")
        self.check("if 1\nend\njob main\nend", "job main\nend\nwhile 1\nend", "job main\nend\nend", "most b\nend")

    def test_an_else_outside_an_if(self):
        self.check("job main\nelse\nend", "job main\nwhile 1\nelse\nend\nend", "job main\nif 1\nend\nelse\nend",
                   "job main\nif 1\nwhile 1\nelse\nend\nend\nend", "job main\nif 1\nelse\nwhile 1\nelse\nend\nend\nend",
                   "job main\nstop\nelse\nstop\nend", "job main\nif 1\nif 1\nelse\nend\nend\nelse\nend")

    def test_a_second_else(self):
        self.check("job main\nif 1\nelse\nelse\nend\nend", "job main\nif 1\nstop\nelse\nstop\nelse\nend\nend",
                   "job main\nif 1\nelse\nif 1\nelse\nend\nelse\nend\nend", "job main\nwhile 1\nif 1\nelse\nelse\nend\nend\nend")

    def test_within_four_others(self):
        for outer in product(("if 1", "while 1", "if 1\nelse"), repeat=4):
            for inner in ("if 1", "while 1"):
                lines = "\n".join(outer)
                self.check(f"job main\n{lines}\n{inner}\nend\nend\nend\nend\nend\nend")
                text = "\n".join(outer[:3])
                text = f"job main\n{text}\n{inner}\nend\n{inner}\nend\nend\nend\nend\nend"
                self.assertFalse(is_badly_nested(text.split("\n")))
                self.assertIsNone(refusal(read, text))

    def test_within_many_others(self):
        for count in (5, 6, 20, 70):
            self.check("\n".join(["job main"] + ["if 1"] * count + ["end"] * count + ["end"]))
        self.check("\n".join(["job main"] + ["while 1"] * 149), "\n".join(["job main"] + ["if 1"] * 6 + ["else"] * 100))

    def test_not_closed(self):
        self.check("job main", "job main\nstop", "job main\nif 1\nend", "job main\nif 1\nelse\nend", "job main\nwhile 1\nend",
                   "job main\nend\njob f", "job main\nif 1", "job main\nif 1\nif 1\nend\nend", "most b\njob main",
                   "job main\nwhile 1\nif 1\nelse\nend\nend")

    def test_all_texts_of_few_lines(self):
        for length in range(1, 6):
            for lines in product(WORDS, repeat=length):
                told = refusal(read, "\n".join(lines))
                self.assertIs(told is NoNest, is_badly_nested(lines), lines)

    def test_all_bodies_of_few_lines(self):
        for length in range(1, 6):
            for body in product(("if 1", "while 1", "else", "end", "stop"), repeat=length):
                lines = ["job main"] + list(body) + ["end"]
                told = refusal(read, "\n".join(lines))
                self.assertIs(told, NoNest if is_badly_nested(lines) else None, lines)

    def test_due_ahead_of_names_and_kinds(self):
        faults = ("put q 1", "begin q 1", "begin main 1", "put b 1 2", "wait b has 1", "get x b", "tell size q", "tell item b 1",
                  "if held q\nend", "while has b 1\nend")
        for fault in faults:
            told = refusal(read, f"most b\njob main\n{fault}\nend")
            self.assertNotIn(told, (None, NoNest), fault)
            self.check(f"most b\njob main\n{fault}\nelse\nend", f"most b\njob main\n{fault}\nend\nstop",
                       f"most b\njob main\n{fault}\nend\nmost c", f"most b\njob main\n{fault}\nend\nend",
                       f"most b\njob main\n{fault}\nend\nask 1\njob f\nend", f"most b\njob main\n{fault}")
        self.check("most b\nset b\njob main\nend\nend", "job f\nend\nend", "job main a\nend\nstop", "job f a a\nelse\nend",
                   "job f\nend\njob f\nend\njob main", "job main\nend\nask size q\nend")


if __name__ == "__main__":
    unittest.main()
