"""How a thread that goes alone ends."""

import unittest

from surejoin.alone import alone
from surejoin.texts import read

BOXES = "most m\nset s\nonce o\nrow r\nmap p\n"
OTHERS = "\njob f a\ntell a\nend\njob g\nend"
NO_NUMBER = ("div 1 0", "rem 1 0", "div 0 0", "rem 0 0", "div 5 x", "rem 5 - 1 1", "+ 1 div 1 0", "* 0 rem 1 0",
             "= div 1 0 div 1 0", "+ 1 + 1 + 1 + 1 div 1 0", "+ + + + rem 1 0 1 1 1 1")


def program_of(*lines):
    """The lines of main begin in line 7; its end stands behind them."""
    return read(BOXES + "\n".join(("job main",) + lines + ("end",)) + OTHERS)


def end_of(lines, steps=400, given=()):
    """Word, line and steps used."""
    return alone(program_of(*lines), "main", [], steps, list(given))[1:4]


class TestDone(unittest.TestCase):
    def test_behind_the_last_row_in_the_line_of_the_end_of_the_job(self):
        self.assertEqual(end_of([]), ("done", 7, 0))
        self.assertEqual(end_of(["tell 1"]), ("done", 8, 1))
        self.assertEqual(end_of(["tell 1", "tell 2", "put m 1"]), ("done", 10, 3))
        self.assertEqual(end_of(["if 0", "tell 1", "end"]), ("done", 10, 1))
        self.assertEqual(end_of(["while 0", "tell 1", "end"]), ("done", 10, 1))

    def test_at_a_stop_in_its_line(self):
        self.assertEqual(end_of(["stop"]), ("done", 7, 1))
        self.assertEqual(end_of(["tell 1", "stop", "tell 2"]), ("done", 8, 2))
        self.assertEqual(end_of(["while 1", "if x", "stop", "end", "let x 1", "end"]), ("done", 9, 6))
        self.assertEqual(end_of(["if 1", "else", "stop", "end", "stop"]), ("done", 11, 2))
        program = program_of("tell 1", "stop", "tell 2", "put m div 1 0")
        self.assertEqual(alone(program, "main", [], 9, []), ([(7, ("tell", 1)), (8, ("stop",))], "done", 8, 2, [1]))

    def test_behind_the_last_row_though_no_step_is_left(self):
        self.assertEqual(end_of([], 0), ("done", 7, 0))
        self.assertEqual(end_of(["tell 1"], 1), ("done", 8, 1))
        self.assertEqual(end_of(["if 1", "tell 1", "end"], 2), ("done", 10, 2))
        self.assertEqual(end_of(["get x o"], 1, [4]), ("done", 8, 1))
        self.assertEqual(end_of(["begin g 9"], 5), ("done", 8, 1))
        self.assertEqual(alone(program_of(), "g", [], 0, []), ([], "done", 12, 0, []))

    def test_a_stop_with_the_last_step(self):
        self.assertEqual(end_of(["stop", "tell 1"], 1), ("done", 7, 1))
        self.assertEqual(end_of(["tell 1", "stop"], 2), ("done", 8, 2))

    def test_each_job_ends_in_its_own_line(self):
        program = read("job f a b\ntell a\nend\njob main\nend\njob g\ntell 1\ntell 2\nend")
        self.assertEqual(alone(program, "f", [1, 2], 9, [])[1:3], ("done", 3))
        self.assertEqual(alone(program, "main", [], 9, [])[1:3], ("done", 5))
        self.assertEqual(alone(program, "g", [], 9, [])[1:3], ("done", 9))


class TestTired(unittest.TestCase):
    def test_with_no_steps_at_each_sort_of_row(self):
        for line in (
            "let x 1", "put m 1", "wait m least 1", "wait s has 0", "get x o", "get x r 0", "get x p 1", "tell 1",
            "if 1\nend", "while 1\nend", "begin g 1", "stop", "tell div 1 0", "wait m many div 1 0", "get x r rem 1 0",
        ):
            for given in ([], [1], [None]):
                told = alone(program_of(line), "main", [], 0, given)
                self.assertEqual(told, ([], "tired", 7, 0, []), line)

    def test_in_the_line_of_the_row_where_it_stands(self):
        lines = ["tell 1", "tell 2", "if 1", "tell 3", "else", "tell 4", "end", "tell 5"]
        self.assertEqual(
            [end_of(lines, steps) for steps in range(7)],
            [("tired", 7, 0), ("tired", 8, 1), ("tired", 9, 2), ("tired", 10, 3), ("tired", 14, 4), ("done", 15, 5),
             ("done", 15, 5)],
        )

    def test_at_a_wait_and_a_get_too(self):
        for line, given in (("wait m least 0", None), ("get x o", 3), ("get x p 7", 3)):
            for handed in ([], [given]):
                self.assertEqual(end_of(["tell 1", line], 1, handed), ("tired", 8, 1))
            self.assertEqual(end_of(["tell 1", line], 2, []), ("waits", 8, 1))
            self.assertEqual(end_of(["tell 1", line], 2, [given]), ("done", 9, 2))

    def test_at_a_row_whose_expression_has_no_number(self):
        self.assertEqual(end_of(["tell 1", "tell div 1 0"], 1), ("tired", 8, 1))
        self.assertEqual(end_of(["tell 1", "tell div 1 0"], 2), ("nought", 8, 2))

    def test_where_a_loop_goes_on(self):
        self.assertEqual(end_of(["while 1", "end"], 400), ("tired", 7, 400))
        self.assertEqual(end_of(["while 1", "let x + x 1", "end"], 5), ("tired", 8, 5))
        self.assertEqual(end_of(["while 1", "let x + x 1", "end"], 6), ("tired", 7, 6))

    def test_where_all_steps_were_handed_on(self):
        self.assertEqual(end_of(["begin g 400", "tell 1"], 10), ("tired", 8, 1))
        self.assertEqual(end_of(["begin g 9", "tell 1"], 10), ("tired", 8, 1))
        self.assertEqual(end_of(["begin g 8", "tell 1"], 10), ("done", 9, 2))


class TestJumps(unittest.TestCase):
    def test_a_jump_takes_no_step(self):
        self.assertEqual(end_of(["if 1", "tell 1", "else", "tell 2", "end", "tell 3"]), ("done", 13, 3))
        self.assertEqual(end_of(["while < x 3", "let x + x 1", "end"]), ("done", 10, 7))

    def test_where_it_leads_behind_the_last_row(self):
        self.assertEqual(end_of(["if 1", "tell 1", "else", "tell 2", "end"], 2), ("done", 12, 2))
        self.assertEqual(end_of(["if 1", "else", "end"], 1), ("done", 10, 1))
        self.assertEqual(end_of(["if 1", "else", "tell 2", "end"], 1), ("done", 11, 1))
        self.assertEqual(end_of(["if 1", "if 1", "else", "tell 1", "end", "else", "tell 2", "end"], 2), ("done", 15, 2))

    def test_where_it_leads_back_to_a_split(self):
        self.assertEqual(end_of(["while < x 1", "let x 1", "end"], 2), ("tired", 7, 2))
        self.assertEqual(end_of(["while < x 1", "let x 1", "end"], 3), ("done", 10, 3))
        self.assertEqual(end_of(["tell 1", "while 1", "end"], 3), ("tired", 8, 3))

    def test_one_that_leads_to_another(self):
        lines = ["while < x 2", "let x + x 1", "if 1", "tell x", "else", "tell 9", "end", "end", "tell 7"]
        self.assertEqual(end_of(lines, 4), ("tired", 7, 4))
        self.assertEqual(end_of(lines, 9), ("tired", 15, 9))
        self.assertEqual(end_of(lines, 10), ("done", 16, 10))
        inner = ["while < x 1", "let x 1", "while 0", "end", "end"]
        self.assertEqual(end_of(inner, 3), ("tired", 7, 3))
        self.assertEqual(end_of(inner, 4), ("done", 12, 4))


class TestWaits(unittest.TestCase):
    def test_where_nothing_is_given_any_more(self):
        for line in ("wait m least 1", "wait m many 0", "wait s has 1", "wait p has 1", "get x o", "get x r 1", "get x p 1"):
            self.assertEqual(end_of([line]), ("waits", 7, 0), line)
            self.assertEqual(end_of(["tell 1", "tell 2", line, "tell 3"]), ("waits", 9, 2), line)
            self.assertEqual(end_of(["while 1", line, "end"]), ("waits", 8, 1), line)

    def test_behind_others_that_were_given_something(self):
        lines = ["get x o", "wait m least 1", "tell x", "get y r 0", "tell y"]
        self.assertEqual(end_of(lines, 400, []), ("waits", 7, 0))
        self.assertEqual(end_of(lines, 400, [5]), ("waits", 8, 1))
        self.assertEqual(end_of(lines, 400, [5, None]), ("waits", 10, 3))
        self.assertEqual(end_of(lines, 400, [5, None, 6]), ("done", 12, 5))
        self.assertEqual(end_of(lines, 400, [5, None, 6, 7, None]), ("done", 12, 5))

    def test_in_a_loop(self):
        lines = ["while 1", "get x p x", "end"]
        for count in range(5):
            self.assertEqual(end_of(lines, 400, [3] * count), ("waits", 8, 2 * count + 1))

    def test_done_at_once_where_it_never_comes_to_a_wait(self):
        self.assertEqual(end_of(["stop", "get x o"]), ("done", 7, 1))
        self.assertEqual(end_of(["if 0", "get x o", "end"]), ("done", 10, 1))


class TestNought(unittest.TestCase):
    def test_in_each_sort_of_row_and_place(self):
        for line in (
            "let x {}", "put m {}", "put s {}", "put o {}", "put r {}", "put r {} 1", "put r 1 {}", "put r 1 2 3 {}",
            "put r 1 {} {} 4", "put p {} 1", "put p 1 {}", "wait m least {}", "wait s has {}", "wait r many {}",
            "get x r {}", "get x p {}", "tell {}", "if {}\nend", "if {}\nelse\nend", "while {}\nend", "begin g {}",
            "begin f {} 1", "begin f 1 {}", "begin f {} {}",
        ):
            for E in NO_NUMBER:
                row = line.replace("{}", E)
                program = program_of("tell 4", row, "tell 5", "put m 6")
                story = ([(7, ("tell", 4)), (8, ("nought",))], "nought", 8, 2, [4])
                for given in ([], [1], [None, 2]):
                    self.assertEqual(alone(program, "main", [], 400, given), story, row)
                self.assertEqual(alone(program, "main", [], 2, []), story, row)
                self.assertEqual(alone(program, "main", [], 1, []), (story[0][:1], "tired", 8, 1, [4]), row)

    def test_nothing_is_used_of_what_is_given(self):
        # Were the first wait handed the number, the one behind it would be handed another one.
        program = program_of("get x o", "if = x 3", "get y r div 1 0", "end", "get y o", "tell y")
        for given in ([3], [3, 8], [3, 8, 9]):
            told = alone(program, "main", [], 400, given)
            self.assertEqual(told[1:], ("nought", 9, 3, []))
            self.assertEqual(told[0][-1], (9, ("nought",)))
        self.assertEqual(alone(program, "main", [], 400, [4, 8])[1:], ("done", 13, 4, [8]))

    def test_it_depends_on_the_numbers(self):
        program = program_of("get x o", "tell div 12 x", "tell rem 12 x")
        self.assertEqual(alone(program, "main", [], 9, [5]), (
            [(7, ("pass", "o", "held", 0, 5)), (8, ("tell", 2)), (9, ("tell", 2))], "done", 10, 3, [2, 2],
        ))
        self.assertEqual(alone(program, "main", [], 9, [0])[1:], ("nought", 8, 2, []))

    def test_nothing_is_handed_on(self):
        program = program_of("begin f 3 div 1 0", "tell 1")
        self.assertEqual(alone(program, "main", [], 400, []), ([(7, ("nought",))], "nought", 7, 1, []))

    def test_in_a_loop_and_its_split(self):
        lines = ["let x 3", "while div 6 x", "let x - x 1", "end"]
        self.assertEqual(end_of(lines), ("nought", 8, 8))

    def test_with_the_last_step(self):
        self.assertEqual(end_of(["tell div 1 0"], 1), ("nought", 7, 1))


if __name__ == "__main__":
    unittest.main()
