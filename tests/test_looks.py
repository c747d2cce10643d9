import unittest
from copy import deepcopy

from surejoin.looks import is_let, looks
from surejoin.texts import read
from tests.small import EXPRESSION_PLACES, FOUR_BOXES, around, deep_texts, drawn_text, plain_parts

LOOK_WORDS = ("size", "held", "has", "item")


def looks_in_text(text):
    """By the words of the text alone: those words are kept, so that only a wait's own word is no look."""
    told = []
    for number, line in enumerate(text.split("\n"), start=1):
        words = line.split(" ")
        if words[0] == "ask":
            continue
        if words[0] == "wait":
            words[2] = ""
        told += [(number, word) for word in words if word in LOOK_WORDS]
    return told


class TestLooks(unittest.TestCase):
    def check(self, text, expected):
        program = read(text)
        before = deepcopy(program)
        told = looks(program)
        self.assertEqual(told, expected, text)
        self.assertEqual(plain_parts(told), plain_parts(list(expected)), text)
        self.assertIs(is_let(program), expected == [], text)
        self.assertEqual(program, before, text)

    def test_in_each_sort_of_statement(self):
        boxes = "once o\nrow r\nmap p\nmost m\nset s\njob f a b c d\nend\njob main\n"
        for line, words in (
            ("let x held o", ["held"]),
            ("put m size o", ["size"]),
            ("put r size o held m", ["size", "held"]),
            ("put r 1 2 has s 3", ["has"]),
            ("put r held m 2 has s 1 item r 0", ["held", "has", "item"]),
            ("put p item p 1 has p 2", ["item", "has"]),
            ("wait m least size o", ["size"]),
            ("wait s has 1", []),
            ("wait s has has s 1", ["has"]),
            ("wait p many item p 0", ["item"]),
            ("get x o", []),
            ("get x r held o", ["held"]),
            ("get x p item p 0", ["item"]),
            ("tell size s", ["size"]),
            ("tell held m", ["held"]),
            ("tell held o", ["held"]),
            ("tell + 1 2", []),
            ("if has s 2\nend", ["has"]),
            ("if has s 2\nelse\nend", ["has"]),
            ("while item r 2\nend", ["item"]),
            ("begin f size o 1 2 3 4", ["size"]),
            ("begin f 1 2 3 4 held o", ["held"]),
            ("begin f item r 0 has s 1 held m size p size r", ["item", "has", "held", "size", "size"]),
            ("stop", []),
        ):
            self.check(boxes + line + "\nend", [(9, word) for word in words])

    def test_within_ifs_elses_and_whiles(self):
        text = """most m
job main
if size m
tell held m
while held m
if 1
put m size m
else
let x held m
end
tell size m
end
else
begin f held m
while 0
if 0
else
tell size m
end
end
tell held m
end
wait m many size m
end
job f
tell held m
end"""
        self.check(text, [
            (3, "size"), (4, "held"), (5, "held"), (7, "size"), (9, "held"), (11, "size"), (14, "held"), (18, "size"),
            (21, "held"), (23, "size"), (26, "held"),
        ])

    def test_several_in_one_line_from_left_to_right(self):
        boxes = "once o\nrow r\nmap p\nset s\njob main\n"
        for E, words in (
            ("+ held o size o", ["held", "size"]),
            ("+ size o held o", ["size", "held"]),
            ("item r held o", ["item", "held"]),
            ("has s item r size p", ["has", "item", "size"]),
            ("item p + has s size r item r held o", ["item", "has", "size", "item", "held"]),
            ("- * size o 2 rem item p 1 held o", ["size", "item", "held"]),
            ("+ size s size s", ["size", "size"]),
            ("= < 1 has p 2 div x + 3 has s size s", ["has", "has", "size"]),
        ):
            self.check(f"{boxes}tell {E}\nend", [(6, word) for word in words])

    def test_several_jobs_in_the_order_of_lines(self):
        text = "most m\njob z\ntell size m\nend\njob main\ntell held m\nend\njob a\ntell 1\nend\njob b\ntell size m\nend"
        self.check(text, [(3, "size"), (6, "held"), (12, "size")])

    def test_looks_of_asks_do_not_count(self):
        self.check("most m\njob main\nend\nask held m", [])
        self.check("most m\njob main\nput m 1\nend\nask + size m held m\nask size m", [])
        self.check("most m\njob main\ntell size m\nend\nask held m", [(3, "size")])

    def test_programs_without_looks(self):
        self.check("job main\nend", [])
        self.check("job main\nend\nask 1", [])
        self.check("set s\nmap p\njob main\nwait s has 1\nwait p has 2\nget x p 1\nend", [])
        for seed in range(20):
            self.check(drawn_text(seed), [])

    def test_all_places_of_an_expression(self):
        for place in EXPRESSION_PLACES:
            for look in ("size o", "held o", "held m", "has p 1", "item r 1", "item p 0", "7", "+ x 1"):
                for E in around(look)[:5] + around(look)[7:9]:
                    text = FOUR_BOXES + place.format(E)
                    self.check(text, looks_in_text(text))

    def test_deep_within_an_expression(self):
        for deep in range(6):
            for E in deep_texts(deep):
                # One box has all looks' words at once nowhere: each is given one that it is for.
                E = E.replace("size b", "size m").replace("held b", "held m")
                E = E.replace("item b", "item p").replace("has b", "has p")
                text = f"{FOUR_BOXES}job main\nwhile {E}\nput p {E} {E}\nend\nend"
                self.check(text, looks_in_text(text))

    def test_a_told_list_that_is_changed_changes_no_later_one(self):
        program = read("most m\njob main\ntell size m\nend")
        told = looks(program)
        told.append((9, "held"))
        told[0] = None
        self.assertEqual(looks(program), [(3, "size")])
        let = read("job main\nend")
        looks(let).append((1, "size"))
        self.assertEqual(looks(let), [])
        self.assertIs(is_let(let), True)

    def test_told_by_what_the_program_is_now(self):
        program = read("most m\njob main\ntell 1\nend")
        self.assertIs(is_let(program), True)
        told = looks(program)
        program[1][0][2].append(("tell", 4, ("size", "m")))
        self.assertEqual(told, [])
        self.assertEqual(looks(program), [(4, "size")])
        self.assertIs(is_let(program), False)


if __name__ == "__main__":
    unittest.main()
