import unittest

from surejoin.errors import JoinError, NoKind
from surejoin.texts import read
from tests.small import EXPRESSION_PLACES, FOUR_BOXES, KINDS, LOOKS, around, refusal

PUT_COUNTS = {"most": [1], "set": [1], "once": [1], "row": [1, 2, 3, 4], "map": [2]}
WAIT_WORDS = {"most": ["least", "many"], "set": ["has", "many"], "once": ["many"], "row": ["many"], "map": ["has", "many"]}
WITHOUT = ["once"]
WITH = ["row", "map"]

IN_JOBS = (
    "job main\n{}\nend", "job main\nstop\n{}\nstop\nend", "job f\n{}\nend\njob main\nend", "job main\nend\njob f a\n{}\nend",
    "job main\nif 1\n{}\nend\nend", "job main\nif 1\nstop\nelse\n{}\nend\nend", "job main\nwhile 1\n{}\nend\nend",
    "job main\nif 1\nelse\nwhile 1\nif 1\n{}\nelse\nend\nend\nend\nend", "job main\nif 1\nelse\nend\n{}\nend",
)


class TestFits(unittest.TestCase):
    def check(self, text, fits):
        with self.subTest(text=text):
            self.assertIs(refusal(read, text), None if fits else NoKind)
            self.assertIs(refusal(read, text), None if fits else NoKind)

    def check_line(self, kind, line, fits):
        for place in IN_JOBS:
            self.check(f"{kind} b\n" + place.format(line), fits)
            # Other boxes, of each kind, ahead and behind; the box's own kind is what counts.
            others = "most ba\nset bb\nonce bc\n", "row bd\nmap be\n"
            self.check(f"{others[0]}{kind} b\n{others[1]}" + place.format(line), fits)

    def test_a_puts_count(self):
        for kind in KINDS:
            for count in range(1, 5):
                self.check_line(kind, "put b" + " 1" * count, count in PUT_COUNTS[kind])
                self.check_line(kind, "put b" + " + x size b" * count, count in PUT_COUNTS[kind])

    def test_a_waits_word(self):
        for kind in KINDS:
            for word in ("least", "has", "many"):
                self.check_line(kind, f"wait b {word} 1", word in WAIT_WORDS[kind])

    def test_a_get_with_and_without_an_expression(self):
        for kind in KINDS:
            self.check_line(kind, "get x b", kind in WITHOUT)
            self.check_line(kind, "get b b", kind in WITHOUT)
            self.check_line(kind, "get x b 0", kind in WITH)
            self.check_line(kind, "get x b + 1 size b", kind in WITH)

    def test_each_look_at_each_place(self):
        for kind in KINDS:
            for look, text in (("size", "size b"), ("held", "held b"), ("has", "has b 1"), ("item", "item b 1")):
                fits = look in LOOKS[kind]
                for place in EXPRESSION_PLACES:
                    self.check(f"{kind} b\n{FOUR_BOXES}" + place.format(text), fits)
                for E in around(text):
                    self.check(f"{FOUR_BOXES}{kind} b\njob main\ntell {E}\nend", fits)
                    self.check(f"{FOUR_BOXES}{kind} b\njob main\nend\nask {E}", fits)

    def test_each_look_within_each_look(self):
        for one in KINDS:
            for other in KINDS:
                for outer in ("has", "item"):
                    for look, text in (("size", "size c"), ("held", "held c"), ("has", "has c 1"), ("item", "item c 1")):
                        fits = outer in LOOKS[one] and look in LOOKS[other]
                        self.check(f"{one} b\n{other} c\njob main\nif {outer} b {text}\nend\nend", fits)
                        self.check(f"{one} b\n{other} c\njob main\nend\nask 1\nask {outer} b {text}\nask 2", fits)

    def test_a_name_is_not_held_to_a_box_called_alike(self):
        for kind in KINDS:
            self.check(f"{kind} b\njob b b\nlet b + b 1\ntell b\nend\njob main\nbegin b b b\nend\nask b", True)

    def test_each_kind_by_its_own_box(self):
        lines = "put m 1\nput s 1\nput o 1\nput r 1 2 3\nput p 1 2\nwait m least 1\nwait s has 1\nwait p has 1\nget x o"
        good = f"set s\n{FOUR_BOXES}job main\n{lines}\nget x r 1\nget x p 1\nend\nask + held m held o\nask + has s 1 has p 1"
        self.check(good, True)
        for old, new in (("put m 1", "put m 1 2"), ("put s 1", "put s 1 2"), ("put o 1", "put o 1 2"), ("put p 1 2", "put p 1"),
                         ("put p 1 2", "put p 1 2 3"), ("m least", "s least"), ("m least", "p least"), ("s has", "r has"),
                         ("get x o", "get x r"), ("get x o", "get x p"), ("get x o", "get x m"), ("get x o", "get x s"),
                         ("get x r 1", "get x o 1"), ("get x p 1", "get x m 1"), ("get x p 1", "get x s 1"),
                         ("held m", "held s"), ("held o", "held r"), ("held o", "held p"), ("has s 1 ", "has m 1 "),
                         ("has p 1", "has r 1"), ("has p 1", "item s 1"), ("has p 1", "item o 1")):
            self.assertIn(old, good)
            self.check(good.replace(old, new), False)

    def test_the_refusal_is_a_join_error_and_a_value_error(self):
        for kind in (NoKind, JoinError, ValueError):
            with self.assertRaises(kind):
                read("most b\njob main\nput b 1 2\nend")


if __name__ == "__main__":
    unittest.main()
