"""What a thread that goes alone does."""

import unittest

from surejoin.alone import alone
from surejoin.texts import read
from tests.small import TOP

BOXES = "most m\nset s\nonce o\nrow r\nmap p\n"
OTHERS = "\njob f a\ntell a\nend\njob g\nend\njob h a b c d\ntell a\nend"


def program_of(*lines):
    """The lines of main begin in line 7."""
    return read(BOXES + "\n".join(("job main",) + lines + ("end",)) + OTHERS)


def story_of(lines, steps=400, given=()):
    return alone(program_of(*lines), "main", [], steps, list(given))


def deeds_of(lines, steps=400, given=()):
    return [deed for _, deed in story_of(lines, steps, given)[0]]


class TestNumbers(unittest.TestCase):
    def test_let_gives_a_name_a_number(self):
        self.assertEqual(deeds_of(["let x 3", "let y + x 1", "let x * y y", "tell x"]), [
            ("let", "x", 3), ("let", "y", 4), ("let", "x", 16), ("tell", 16),
        ])

    def test_numbers_are_brought_into_the_range(self):
        self.assertEqual(deeds_of(["let x - 0 1", "let y + x 2", "tell * x x", "tell - y x", "tell + x x"]), [
            ("let", "x", TOP), ("let", "y", 1), ("tell", 1), ("tell", 2), ("tell", TOP - 1),
        ])
        self.assertEqual(deeds_of(["if + 999999999 1", "tell 1", "else", "tell 2", "end"]), [("test", 0), ("tell", 2)])
        self.assertEqual(deeds_of(["if - 0 1", "tell 1", "else", "tell 2", "end"]), [("test", TOP), ("tell", 1)])
        self.assertEqual(deeds_of(["let x 999999998", "while x", "let x + x 1", "end"]), [
            ("let", "x", 999999998), ("test", 999999998), ("let", "x", TOP), ("test", TOP), ("let", "x", 0), ("test", 0),
        ])
        self.assertEqual(deeds_of(["put m - 0 1", "put p - 0 2 * 100000 100000"]), [
            ("put", "m", [TOP]), ("put", "p", [(TOP - 1, 0)]),
        ])
        self.assertEqual(deeds_of(["begin f + 999999999 3 - 1 2"]), [("begin", "f", 2, [TOP])])

    def test_names_without_a_number_are_0(self):
        self.assertEqual(deeds_of(["tell x", "tell + x y", "put m x", "if x", "end", "begin f x y"]), [
            ("tell", 0), ("tell", 0), ("put", "m", [0]), ("test", 0), ("begin", "f", 0, [0]),
        ])

    def test_names_alike_but_for_a_letter(self):
        lines = ["let x 1", "let xx 2", "let xy 3", "let yx 4", "let abcdefgh 5", "let abcdefgi 6"]
        tells = ["tell x", "tell xx", "tell xy", "tell yx", "tell abcdefgh", "tell abcdefgi", "tell abcdefg", "tell y"]
        self.assertEqual(story_of(lines + tells)[4], [1, 2, 3, 4, 5, 6, 0, 0])

    def test_a_name_may_be_called_like_a_box_or_a_job(self):
        self.assertEqual(deeds_of(["let m 4", "let main 5", "let f 6", "put m + m f", "tell main", "begin f f m"]), [
            ("let", "m", 4), ("let", "main", 5), ("let", "f", 6), ("put", "m", [10]), ("tell", 5), ("begin", "f", 6, [4]),
        ])

    def test_parameters_have_the_numbers_handed_in(self):
        program = read(
            "job main\nend\njob n\ntell a\nend\njob o a\ntell a\nend\njob p b a\ntell a\ntell b\nend\n"
            "job q c a b\ntell a\ntell b\ntell c\nend\njob r d b c a\ntell a\ntell b\ntell c\ntell d\nlet a 9\ntell a\nend"
        )
        self.assertEqual(alone(program, "n", [], 9, [])[4], [0])
        self.assertEqual(alone(program, "o", [7], 9, [])[4], [7])
        self.assertEqual(alone(program, "p", [7, 8], 9, [])[4], [8, 7])
        self.assertEqual(alone(program, "q", [TOP, 0, 5], 9, [])[4], [0, 5, TOP])
        self.assertEqual(alone(program, "r", [1, 2, 3, 4], 9, [])[4], [4, 2, 3, 1, 9])

    def test_told_numbers_in_order_perhaps_alike(self):
        self.assertEqual(story_of(["tell 3", "tell 1", "tell 3", "tell 0", "tell 3"])[4], [3, 1, 3, 0, 3])


class TestPuts(unittest.TestCase):
    def test_by_each_kind(self):
        self.assertEqual(deeds_of(["put m 5", "put s 6", "put o 7", "put r 8", "put p 9 2"]), [
            ("put", "m", [5]), ("put", "s", [6]), ("put", "o", [7]), ("put", "r", [8]), ("put", "p", [(9, 2)]),
        ])

    def test_rows_of_one_to_four_numbers_in_their_order(self):
        self.assertEqual(deeds_of(["put r 3", "put r 3 1", "put r 3 1 2", "put r 9 3 1 2", "put r 4 4 4 4", "put r 0 0"]), [
            ("put", "r", [3]), ("put", "r", [3, 1]), ("put", "r", [3, 1, 2]), ("put", "r", [9, 3, 1, 2]),
            ("put", "r", [4, 4, 4, 4]), ("put", "r", [0, 0]),
        ])

    def test_a_map_takes_one_tuple_key_first(self):
        self.assertEqual(deeds_of(["put p 2 1", "put p 1 2", "put p 5 5", "put p 0 0"]), [
            ("put", "p", [(2, 1)]), ("put", "p", [(1, 2)]), ("put", "p", [(5, 5)]), ("put", "p", [(0, 0)]),
        ])
        state = deeds_of(["put p 2 1"])[0][2]
        self.assertIs(type(state[0]), tuple)

    def test_puts_that_would_not_fit_are_done_alone(self):
        self.assertEqual(deeds_of(["put o 1", "put o 2", "put o 1"]), [
            ("put", "o", [1]), ("put", "o", [2]), ("put", "o", [1]),
        ])

    def test_expressions_from_left_to_right(self):
        self.assertEqual(deeds_of(["let x 7", "put r x + x 1 - x 1 * x x", "put p rem x 4 div x 2"]), [
            ("let", "x", 7), ("put", "r", [7, 8, 6, 49]), ("put", "p", [(3, 3)]),
        ])


class TestPasses(unittest.TestCase):
    def test_a_wait_with_each_of_its_words(self):
        lines = ["wait m least 5", "wait s has 6", "wait p has 7", "wait m many 1", "wait s many 2", "wait o many 3",
                 "wait r many + 2 2", "wait p many x"]
        self.assertEqual(deeds_of(lines, 400, [None] * 8), [
            ("pass", "m", "least", 5, None), ("pass", "s", "has", 6, None), ("pass", "p", "has", 7, None),
            ("pass", "m", "many", 1, None), ("pass", "s", "many", 2, None), ("pass", "o", "many", 3, None),
            ("pass", "r", "many", 4, None), ("pass", "p", "many", 0, None),
        ])

    def test_a_get_of_each_kind(self):
        self.assertEqual(deeds_of(["get x o", "tell x", "get x r + x 1", "tell x", "get y p x", "tell + x y"], 9, [3, 8, 9]), [
            ("pass", "o", "held", 0, 3), ("tell", 3), ("pass", "r", "item", 4, 8), ("tell", 8),
            ("pass", "p", "item", 8, 9), ("tell", 17),
        ])

    def test_what_get_gives_the_name(self):
        lines = ["let x 9", "get x o", "tell x", "get x o", "tell x", "get y o", "tell x", "tell y"]
        self.assertEqual(story_of(lines, 400, [0, TOP, 4])[4], [0, TOP, TOP, 4])

    def test_a_wait_gives_no_name_anything(self):
        self.assertEqual(story_of(["let m 4", "let x 5", "wait m least 1", "tell m", "tell x"], 9, [None])[4], [4, 5])

    def test_given_one_after_another_and_longer_than_what_is_used(self):
        lines = ["get x o", "tell x", "wait s has 1", "get x o", "tell x", "stop", "get x o"]
        for more in ([], [7], [7, None, 8], [None] * 50):
            told = story_of(lines, 400, [5, None, 6] + more)
            self.assertEqual(told, (
                [(7, ("pass", "o", "held", 0, 5)), (8, ("tell", 5)), (9, ("pass", "s", "has", 1, None)),
                 (10, ("pass", "o", "held", 0, 6)), (11, ("tell", 6)), (12, ("stop",))], "done", 12, 6, [5, 6],
            ))

    def test_each_pass_is_a_step(self):
        self.assertEqual(story_of(["get x o", "wait m least 1", "tell 1"], 2, [1, None])[1:], ("tired", 9, 2, []))

    def test_it_reckons_with_what_it_was_given(self):
        lines = ["get i o", "while i", "get x r i", "let sum + sum x", "let i - i 1", "end", "tell sum"]
        told = story_of(lines, 400, [3, 10, 20, 30])
        self.assertEqual(told[1:], ("done", 14, 15, [60]))
        self.assertEqual([deed[3] for _, deed in told[0] if deed[0] == "pass"], [0, 3, 2, 1])


class TestTests(unittest.TestCase):
    def test_ifs(self):
        lines = ["if {}", "tell 1", "else", "tell 2", "end", "tell 3"]
        for E, number, told in (("0", 0, [2, 3]), ("1", 1, [1, 3]), ("999999999", TOP, [1, 3]), ("= 1 2", 0, [2, 3]),
                                ("- 3 3", 0, [2, 3]), ("- 3 5", TOP - 1, [1, 3]), ("x", 0, [2, 3])):
            story = story_of([line.replace("{}", E) for line in lines])
            self.assertEqual(story[0][0], (7, ("test", number)))
            self.assertEqual(story[1:], ("done", 13, 3, told))

    def test_an_if_without_else(self):
        self.assertEqual(story_of(["if 0", "tell 1", "end", "tell 3"])[4], [3])
        self.assertEqual(story_of(["if 2", "tell 1", "end", "tell 3"])[4], [1, 3])

    def test_a_while(self):
        told = story_of(["while < x 3", "tell x", "let x + x 1", "end", "tell x"])
        self.assertEqual(told[1:], ("done", 12, 11, [0, 1, 2, 3]))
        self.assertEqual([line for line, _ in told[0]], [7, 8, 9] * 3 + [7, 11])
        self.assertEqual([deed for _, deed in told[0] if deed[0] == "test"], [("test", 1)] * 3 + [("test", 0)])

    def test_whiles_within_one_another(self):
        lines = ["while < x 3", "let y 0", "while < y x", "tell + * 10 x y", "let y + y 1", "end", "let x + x 1", "end"]
        self.assertEqual(story_of(lines)[4], [10, 20, 21])

    def test_a_jump_is_no_deed(self):
        self.assertEqual(deeds_of(["if 1", "else", "end", "while 0", "end"]), [("test", 1), ("test", 0)])


class TestBegins(unittest.TestCase):
    def test_fewer_as_many_and_more_than_what_is_left(self):
        for first, handed, end in (
            (0, 0, ("done", 9, 2)), (1, 1, ("done", 9, 2)), (7, 7, ("done", 9, 2)), (8, 8, ("done", 9, 2)),
            (9, 9, ("tired", 8, 1)), (10, 9, ("tired", 8, 1)), (11, 9, ("tired", 8, 1)), (TOP, 9, ("tired", 8, 1)),
        ):
            told = story_of([f"begin f {first} 4", "tell 1"], 10)
            self.assertEqual(told[0][0], (7, ("begin", "f", handed, [4])))
            self.assertEqual(told[1:4], end, first)

    def test_what_is_left_then(self):
        lines = ["begin g 3", "begin g 3", "begin g 3", "begin g 3"]
        self.assertEqual(deeds_of(lines, 10), [("begin", "g", 3, []), ("begin", "g", 3, []), ("begin", "g", 1, [])])
        self.assertEqual(story_of(lines, 10)[1:4], ("tired", 10, 3))
        self.assertEqual(deeds_of(lines, 9), [("begin", "g", 3, []), ("begin", "g", 3, []), ("begin", "g", 0, [])])
        self.assertEqual(deeds_of(lines, 8), [("begin", "g", 3, []), ("begin", "g", 3, [])])
        self.assertEqual(story_of(lines, 16)[1:4], ("done", 11, 4))

    def test_with_the_last_step_nothing_is_handed_on(self):
        self.assertEqual(story_of(["begin f 5 1"], 1), ([(7, ("begin", "f", 0, [1]))], "done", 8, 1, []))

    def test_its_numbers(self):
        self.assertEqual(deeds_of(["let x 3", "begin h x 1 + x 1 x - 0 1", "begin g 1", "begin f 0 x"]), [
            ("let", "x", 3), ("begin", "h", 3, [1, 4, 3, TOP]), ("begin", "g", 1, []), ("begin", "f", 0, [3]),
        ])

    def test_the_thread_that_is_begun_does_nothing_here(self):
        told = story_of(["begin f 5 1", "begin h 9 1 2 3 4", "tell 7"])
        self.assertEqual(told[1:], ("done", 10, 3, [7]))

    def test_used_counts_its_own_steps_alone(self):
        self.assertEqual(story_of(["begin f 100 1", "begin f 100 1"])[3], 2)
        self.assertEqual(story_of(["begin f 400 1", "begin f 100 1"])[3], 1)

    def test_a_job_may_begin_itself(self):
        program = read("job main\nend\njob f a\nif a\nbegin f 400 - a 1\nend\ntell a\nend")
        self.assertEqual(alone(program, "f", [3], 50, []), (
            [(4, ("test", 3)), (5, ("begin", "f", 48, [2]))], "tired", 7, 2, [],
        ))


if __name__ == "__main__":
    unittest.main()
