import unittest
from copy import deepcopy

from surejoin.texts import read, shown
from tests.small import KINDS, deep_texts, plain_parts

ONE = ("num", 1)
TWO = ("num", 2)
X = ("name", "x")

BOXES = ["most m", "set s", "once o", "row r", "map p"]
ALL_BOXES = [("most", "m"), ("set", "s"), ("once", "o"), ("row", "r"), ("map", "p")]

WHOLE = """map p
most m
once o
most n
job add a b
put m + a b
if < a b
tell a
else
tell b
tell held m
end
end
job main
let x 5
while x
let x - x 1
if rem x 2
begin add 9 x 1
begin idle * 2 x
end
end
get y o
get y p + x 1
wait m least 4
stop
end
job idle
end
ask size p
ask + x held m"""
WHOLE_PROGRAM = (
    [("map", "p"), ("most", "m"), ("once", "o"), ("most", "n")],
    [
        ("add", ["a", "b"], [
            ("put", 6, "m", [("+", ("name", "a"), ("name", "b"))]),
            ("if", 7, ("<", ("name", "a"), ("name", "b")),
             [("tell", 8, ("name", "a"))],
             [("tell", 10, ("name", "b")), ("tell", 11, ("held", "m"))]),
        ], 5, 13),
        ("main", [], [
            ("let", 15, "x", ("num", 5)),
            ("while", 16, X, [
                ("let", 17, "x", ("-", X, ONE)),
                ("if", 18, ("rem", X, TWO), [
                    ("begin", 19, "add", ("num", 9), [X, ONE]),
                    ("begin", 20, "idle", ("*", TWO, X), []),
                ], None),
            ]),
            ("get", 23, "y", "o", None),
            ("get", 24, "y", "p", ("+", X, ONE)),
            ("wait", 25, "m", "least", ("num", 4)),
            ("stop", 26),
        ], 14, 27),
        ("idle", [], [], 28, 29),
    ],
    [(30, ("size", "p")), (31, ("+", X, ("held", "m")))],
)


def main_of(lines):
    """The text of a program of all kinds of boxes, whose main has these lines, from line 7 on."""
    return "\n".join(BOXES + ["job main"] + lines + ["end"])


class TestRead(unittest.TestCase):
    def check(self, text, program):
        with self.subTest(text=text):
            told = read(text)
            self.assertEqual(told, program)
            self.assertEqual(plain_parts(told), plain_parts(program))
            self.assertEqual(shown(told), text)
            self.assertEqual(shown(program), text)
            self.assertEqual(told, program)

    def check_body(self, lines, body):
        self.check(main_of(lines), (ALL_BOXES, [("main", [], body, 6, 7 + len(lines))], []))

    def test_a_whole_one(self):
        self.check(WHOLE, WHOLE_PROGRAM)

    def test_the_shortest(self):
        self.check("job main\nend", ([], [("main", [], [], 1, 2)], []))

    def test_boxes(self):
        for kind in KINDS:
            self.check(f"{kind} a\njob main\nend", ([(kind, "a")], [("main", [], [], 2, 3)], []))
            names = ["z", "a", "main", "abcdefgh"]
            text = "".join(f"{kind} {name}\n" for name in names) + "job main\nend"
            self.check(text, ([(kind, name) for name in names], [("main", [], [], 5, 6)], []))
        self.check(main_of([]), (ALL_BOXES, [("main", [], [], 6, 7)], []))

    def test_jobs_with_none_to_four_parameters(self):
        for count in range(5):
            params = ["d", "c", "b", "a"][:count]
            text = " ".join(["job f"] + params)
            self.check(f"{text}\nstop\nend\njob main\nend",
                       ([], [("f", params, [("stop", 2)], 1, 3), ("main", [], [], 4, 5)], []))

    def test_main_first_in_the_middle_and_last(self):
        for order in (("main", "f", "g"), ("f", "main", "g"), ("f", "g", "main")):
            text = "\n".join(f"job {name}\nend" for name in order)
            self.check(text, ([], [(name, [], [], 2 * n + 1, 2 * n + 2) for n, name in enumerate(order)], []))

    def test_asks(self):
        self.check("job main\nend\nask 1", ([], [("main", [], [], 1, 2)], [(3, ONE)]))
        self.check("job main\nend\nask x\nask 1\nask 1", ([], [("main", [], [], 1, 2)], [(3, X), (4, ONE), (5, ONE)]))
        self.check("set s\njob main\nend\nask has s size s",
                   ([("set", "s")], [("main", [], [], 2, 3)], [(4, ("has", "s", ("size", "s")))]))

    def test_let_tell_and_stop(self):
        self.check_body(["let x 1"], [("let", 7, "x", ONE)])
        self.check_body(["let x + x 1", "tell x", "stop", "tell 1"],
                        [("let", 7, "x", ("+", X, ONE)), ("tell", 8, X), ("stop", 9), ("tell", 10, ONE)])

    def test_put(self):
        for box in ("m", "s", "o", "r"):
            self.check_body([f"put {box} 1"], [("put", 7, box, [ONE])])
        self.check_body(["put p 1 x"], [("put", 7, "p", [ONE, X])])
        for count in range(1, 5):
            self.check_body(["put r" + " + x 1" * count], [("put", 7, "r", [("+", X, ONE)] * count)])
        self.check_body(["put r 1 x 2 size r"], [("put", 7, "r", [ONE, X, TWO, ("size", "r")])])

    def test_wait(self):
        for box, word in (("m", "least"), ("s", "has"), ("p", "has"), ("m", "many"), ("s", "many"), ("o", "many"),
                          ("r", "many"), ("p", "many")):
            self.check_body([f"wait {box} {word} - x 1"], [("wait", 7, box, word, ("-", X, ONE))])

    def test_get(self):
        self.check_body(["get x o"], [("get", 7, "x", "o", None)])
        self.check_body(["get x r 1"], [("get", 7, "x", "r", ONE)])
        self.check_body(["get r p x"], [("get", 7, "r", "p", X)])

    def test_begin_with_none_to_four_expressions(self):
        for count in range(5):
            params = ["a", "b", "c", "d"][:count]
            text = "\n".join([" ".join(["job f"] + params), "end", "job main", "begin f 1" + " + 1 x" * count, "end"])
            begin = ("begin", 4, "f", ONE, [("+", ONE, X)] * count)
            self.check(text, ([], [("f", params, [], 1, 2), ("main", [], [begin], 3, 5)], []))

    def test_if(self):
        self.check_body(["if x", "end"], [("if", 7, X, [], None)])
        self.check_body(["if x", "else", "end"], [("if", 7, X, [], [])])
        self.check_body(["if x", "stop", "end"], [("if", 7, X, [("stop", 8)], None)])
        self.check_body(["if x", "stop", "else", "end"], [("if", 7, X, [("stop", 8)], [])])
        self.check_body(["if x", "else", "stop", "end"], [("if", 7, X, [], [("stop", 9)])])
        self.check_body(["if x", "stop", "tell 1", "else", "tell 2", "stop", "end", "stop"], [
            ("if", 7, X, [("stop", 8), ("tell", 9, ONE)], [("tell", 11, TWO), ("stop", 12)]), ("stop", 14)])

    def test_while(self):
        self.check_body(["while 1", "end"], [("while", 7, ONE, [])])
        self.check_body(["while x", "stop", "tell 1", "end", "stop"],
                        [("while", 7, X, [("stop", 8), ("tell", 9, ONE)]), ("stop", 11)])

    def test_one_in_the_other(self):
        self.check_body(["if 1", "if 2", "else", "end", "else", "if x", "end", "end"], [
            ("if", 7, ONE, [("if", 8, TWO, [], [])], [("if", 12, X, [], None)])])
        self.check_body(["while 1", "if x", "while 2", "end", "else", "stop", "end", "end"], [
            ("while", 7, ONE, [("if", 8, X, [("while", 9, TWO, [])], [("stop", 12)])])])
        self.check_body(["if 1", "end", "if 2", "end", "while x", "end"], [
            ("if", 7, ONE, [], None), ("if", 9, TWO, [], None), ("while", 11, X, [])])

    def test_within_three_others(self):
        for outer in ("if 1", "while 1"):
            for inner in ("if 1", "while 1"):
                text = main_of([outer] * 3 + [inner] + ["end"] * 4)
                self.assertEqual(shown(read(text)), text)
                text = main_of([outer] * 3 + [inner, "end"] * 5 + ["end"] * 3)
                self.assertEqual(shown(read(text)), text)
        text = main_of(["if 1", "else"] * 4 + ["stop"] + ["end"] * 4)
        body = [("stop", 15)]
        for line in (13, 11, 9, 7):
            body = [("if", line, ONE, [], body)]
        self.assertEqual(read(text)[1][0][2], body)
        self.assertEqual(shown(read(text)), text)

    def test_called_alike(self):
        text = "most f\nrow main\njob f f\nlet f held f\nput f f\nget f main f\nend\njob main\nbegin f 1 f\nend\nask f"
        self.check(text, (
            [("most", "f"), ("row", "main")],
            [("f", ["f"], [("let", 4, "f", ("held", "f")), ("put", 5, "f", [("name", "f")]),
                           ("get", 6, "f", "main", ("name", "f"))], 3, 7),
             ("main", [], [("begin", 9, "f", ONE, [("name", "f")])], 8, 10)],
            [(11, ("name", "f"))]))

    def test_two_jobs_with_the_same_parameters(self):
        self.check("job f a b\nend\njob g b a\nend\njob main\nend", (
            [], [("f", ["a", "b"], [], 1, 2), ("g", ["b", "a"], [], 3, 4), ("main", [], [], 5, 6)], []))

    def test_begun_ahead_of_its_line_and_by_itself(self):
        self.check("job main\nbegin f 1\nend\njob f\nbegin f 2\nend", (
            [], [("main", [], [("begin", 2, "f", ONE, [])], 1, 3), ("f", [], [("begin", 5, "f", TWO, [])], 4, 6)], []))

    def test_expressions_as_deep_as_they_may_be(self):
        for deep in range(6):
            for E in deep_texts(deep):
                E = E.replace("held b", "size b").replace("has b", "item b")
                text = f"row b\njob main\nlet y {E}\nif {E}\nend\nwhile {E}\nend\nput b {E} {E}\nend\nask {E}"
                self.assertEqual(shown(read(text)), text)

    def test_150_lines(self):
        text = "\n".join(["job main"] + ["stop"] * 148 + ["end"])
        self.assertEqual(read(text), ([], [("main", [], [("stop", n) for n in range(2, 150)], 1, 150)], []))
        self.assertEqual(shown(read(text)), text)
        text = "job main\nend" + "\nask 1" * 148
        self.assertEqual(shown(read(text)), text)


class TestCopies(unittest.TestCase):
    def lists_in(self, thing):
        if isinstance(thing, (list, tuple)):
            for part in thing:
                yield from self.lists_in(part)
        if isinstance(thing, list):
            yield thing

    def test_read_again_tells_the_same(self):
        self.assertEqual(read(WHOLE), read(WHOLE))

    def test_what_is_told_is_the_askers_own(self):
        told, other = read(WHOLE), read(WHOLE)
        mine = {id(part) for part in self.lists_in(told)}
        self.assertEqual(mine & {id(part) for part in self.lists_in(other)}, set())
        self.assertEqual(len(mine), len(list(self.lists_in(told))))
        for part in list(self.lists_in(told)):
            part.append("changed")
        self.assertEqual(other, WHOLE_PROGRAM)
        self.assertEqual(read(WHOLE), WHOLE_PROGRAM)
        self.assertEqual(shown(other), WHOLE)

    def test_a_program_that_is_shown_stays_as_it_was(self):
        program = deepcopy(WHOLE_PROGRAM)
        self.assertEqual(shown(program), WHOLE)
        self.assertEqual(program, WHOLE_PROGRAM)
        self.assertEqual(shown(program), WHOLE)

    def test_it_is_shown_as_it_is_now(self):
        program = read("most a\njob main\nend")
        shown(program)
        program[0].append(("set", "b"))
        program[2].append((9, ("num", 4)))
        self.assertEqual(shown(program), "most a\nset b\njob main\nend\nask 4")
        self.assertEqual(shown(read("most a\njob main\nend")), "most a\njob main\nend")


if __name__ == "__main__":
    unittest.main()
