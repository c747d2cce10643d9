import unittest
from copy import deepcopy
from itertools import product

from surejoin.kinds import kind_of
from surejoin.reckoning import reckoned
from surejoin.sums import worked
from surejoin.words import read_expression
from tests.small import KINDS, LOOKS, TOP, WORKINGS, deep_texts, small_states

NAMES = {"x": 5, "y": 0, "top": TOP, "m": 40, "r": 2}
BOXES = {
    "m": ("most", [9]),
    "s": ("set", [0, 4, TOP]),
    "o": ("once", [6]),
    "r": ("row", [7, 8, 7, 2]),
    "p": ("map", [(0, 3), (5, 0), (8, 1)]),
    "me": ("most", []),
    "se": ("set", []),
    "oe": ("once", []),
    "re": ("row", []),
    "pe": ("map", []),
}


class TestReckoned(unittest.TestCase):
    def check(self, rows, names=NAMES, boxes=BOXES):
        for text, number in rows:
            with self.subTest(text=text):
                told = reckoned(read_expression(text), names, boxes)
                self.assertEqual(told, number)
                self.assertIs(type(told), type(number))

    def test_numbers_and_names(self):
        self.check([("0", 0), ("7", 7), ("999999999", TOP), ("x", 5), ("y", 0), ("top", TOP), ("none", 0), ("z", 0)])
        self.check([("x", 0), ("7", 7), ("+ x 7", 7)], {}, {})

    def test_each_working(self):
        self.check([
            ("+ 2 3", 5), ("- 5 3", 2), ("* 6 7", 42), ("div 7 2", 3), ("rem 7 2", 1), ("< 2 3", 1), ("< 3 2", 0),
            ("< 3 3", 0), ("= 3 3", 1), ("= 2 3", 0), ("= 3 2", 0), ("div 2 7", 0), ("rem 2 7", 2),
        ])

    def test_each_working_tells_what_it_tells_of_its_numbers(self):
        for word, one, other in product(WORKINGS, (0, 1, 5, 7, TOP), (0, 1, 3, TOP)):
            self.check([(f"{word} {one} {other}", worked(word, one, other))])
            self.check([(f"{word} a b", worked(word, one, other))], {"a": one, "b": other}, {})

    def test_left_is_first_and_right_is_second(self):
        self.check([("- x 2", 3), ("- 2 x", 999999997), ("div x 2", 2), ("rem 2 x", 2), ("< x 6", 1), ("< 6 x", 0)])
        self.check([("- - 9 4 3", 2), ("- 9 - 4 3", 8), ("div div 40 4 2", 5), ("div 40 div 4 2", 20)])

    def test_brought_into_the_range_at_each_working(self):
        self.check([
            ("+ top 1", 0), ("- 0 1", TOP), ("* top top", 1), ("- 3 5", 999999998), ("+ - 0 1 1", 0),
            ("div + top 1 2", 0), ("< - 0 1 5", 0), ("= + top 1 0", 1), ("rem - 0 1 10", 9), ("div * top 2 2", 499999999),
            ("< + top 2 top", 1), ("item r + top 2", 8),
        ])

    def test_size_of_each_kind(self):
        self.check([("size m", 1), ("size s", 3), ("size o", 1), ("size r", 4), ("size p", 3)])
        self.check([("size me", 0), ("size se", 0), ("size oe", 0), ("size re", 0), ("size pe", 0)])

    def test_held(self):
        self.check([("held m", 9), ("held o", 6), ("held me", 0), ("held oe", 0)])

    def test_has(self):
        self.check([("has s 0", 1), ("has s 4", 1), ("has s top", 1), ("has s 1", 0), ("has s x", 0), ("has se 0", 0)])
        self.check([("has p 0", 1), ("has p 5", 1), ("has p x", 1), ("has p 3", 0), ("has p 1", 0), ("has pe 0", 0)])

    def test_item(self):
        self.check([("item r 0", 7), ("item r 1", 8), ("item r 3", 2), ("item r 4", 0), ("item r top", 0), ("item re 0", 0)])
        self.check([("item p 0", 3), ("item p 5", 0), ("item p 8", 1), ("item p 1", 0), ("item p 3", 0), ("item pe 0", 0)])

    def test_each_look_tells_what_it_tells_of_the_state(self):
        for word in KINDS:
            for state, look, n in product(small_states(word), LOOKS[word], (0, 1, 2, TOP)):
                E = (look, "b") if look in ("size", "held") else (look, "b", ("num", n))
                told = reckoned(E, {}, {"b": (word, state)})
                self.assertEqual(told, kind_of(word).seen(state, look, n), (word, state, E))
                self.assertIs(type(told), int)

    def test_a_place_or_key_that_is_itself_an_expression(self):
        self.check([
            ("item r item r 3", 7), ("item r - 4 1", 2), ("item r - size r 1", 2), ("item p item p 0", 0),
            ("item p + x 3", 1), ("has s * 2 2", 1), ("has s - 0 1", 1), ("has s size r", 1), ("has p held o", 0),
            ("has p - held m 1", 1), ("item r has s 4", 8), ("item r has s 5", 7), ("item p size s", 0),
            ("item r item r item r item r item r 3", 0), ("item r item r item r 3", 0), ("item r rem held m 4", 8),
        ])

    def test_a_name_and_a_box_called_alike(self):
        self.check([("m", 40), ("held m", 9), ("+ m held m", 49), ("r", 2), ("item r r", 7), ("size r", 4), ("s", 0)])
        self.check([("x", 0), ("size x", 2), ("has x x", 0), ("has x 3", 1)], {}, {"x": ("set", [3, 4])})
        self.check([("x", 3), ("size x", 2), ("has x x", 1)], {"x": 3}, {"x": ("set", [3, 4])})

    def test_boxes_that_are_not_named_are_not_looked_at(self):
        self.check([("held m", 9)], {}, {"m": ("most", [9]), "q": ("none such", None)})

    def test_looks_within_workings(self):
        self.check([
            ("+ size r size s", 7), ("- held m held o", 3), ("= held o 6", 1), ("< size p size r", 1),
            ("* item r 1 item p 0", 24), ("div held m has s 4", 9), ("rem item r 0 item r 3", 1),
        ])


class TestWithoutANumber(unittest.TestCase):
    def check(self, texts):
        for text in texts:
            with self.subTest(text=text):
                self.assertIsNone(reckoned(read_expression(text), NAMES, BOXES))

    def test_div_and_rem_by_nought(self):
        self.check(["div 1 0", "rem 1 0", "div 0 0", "rem 0 0", "div x y", "rem top y", "div 1 z", "rem 1 size re"])
        self.check(["div 7 - 5 5", "rem 7 + top 1", "div 7 < 2 1", "rem 7 = 1 2", "div 1 held me", "rem 1 has s 1"])
        self.check(["div 1 item r 9", "div 1 item p 5", "rem 1 * 0 9"])

    def test_on_either_side_of_each_working(self):
        for word in WORKINGS:
            for part in ("div 1 0", "rem 1 0"):
                self.check([f"{word} {part} 0", f"{word} 0 {part}", f"{word} {part} {part}", f"{word} {part} 1"])
                self.check([f"{word} {part} held m", f"{word} x {part}", f"{word} 1 {part}", f"{word} y {part}"])

    def test_where_a_later_part_would_tell_nought(self):
        self.check(["* div 1 0 0", "* 0 div 1 0", "div 0 div 1 0", "rem 0 rem 1 0", "< div 1 0 0", "= div 1 0 div 1 0"])
        self.check(["= rem 1 0 0", "= 0 rem 1 0", "< 0 div 1 0", "+ div 1 0 - 5 5", "* * 0 div 1 0 0", "- div 1 0 div 1 0"])

    def test_in_a_looks_place_or_key(self):
        self.check(["has s div 1 0", "has p rem 1 0", "item r div 1 0", "item p div 1 0", "item re rem 0 0"])
        self.check(["has se div 1 0", "item r item r div 1 0", "has s item p rem 1 0", "+ 1 item r div 1 0"])

    def test_at_each_depth(self):
        text = "div 1 0"
        for level in range(4):
            text = (f"= {text} 0", f"item r {text}", f"* 0 {text}", f"< {text} 1")[level]
            self.check([text])

    def test_a_name_without_a_number_is_nought_and_not_none(self):
        self.assertEqual(reckoned(("name", "q"), {}, {}), 0)
        self.assertEqual(reckoned(("+", ("name", "q"), ("num", 3)), {}, {}), 3)
        self.assertEqual(reckoned(("=", ("name", "q"), ("num", 0)), {}, {}), 1)


class TestCopies(unittest.TestCase):
    def test_what_is_handed_in_stays_as_it_was_and_the_same_is_told_again(self):
        texts = ["x", "none", "+ x none", "div 1 0", "item r 1", "has p x", "size s", "held o", "item re 0", "size pe"]
        for text in texts + ["item r div 1 0", "= held m 9"]:
            E, names, boxes = read_expression(text), deepcopy(NAMES), deepcopy(BOXES)
            first = reckoned(E, names, boxes)
            self.assertEqual(reckoned(E, names, boxes), first)
            self.assertEqual((E, names, boxes), (read_expression(text), NAMES, BOXES))
            self.assertEqual(list(names), list(NAMES))

    def test_it_is_told_by_what_names_and_boxes_are_now(self):
        names, state, E = {"x": 1}, [4, 5], read_expression("+ item r x x")
        boxes = {"r": ("row", state)}
        self.assertEqual(reckoned(E, names, boxes), 6)
        names["x"] = 0
        self.assertEqual(reckoned(E, names, boxes), 4)
        state[0] = 9
        self.assertEqual(reckoned(E, names, boxes), 9)
        boxes["r"] = ("map", [(0, 2)])
        self.assertEqual(reckoned(E, names, boxes), 2)
        names.clear()
        state.clear()
        boxes["r"] = ("row", state)
        self.assertEqual(reckoned(E, names, boxes), 0)

    def test_deeper_than_a_text_may_be(self):
        E = ("num", 1)
        for level in range(30):
            E = ("+", E, ("num", level))
        self.assertEqual(reckoned(E, {}, {}), 1 + sum(range(30)))

    def test_five_deep(self):
        names, boxes = {"x": 3}, {"b": ("row", [1, 2, 3, 3])}
        for text, number in zip(deep_texts(5)[:4], (8, 999999998, 3 ** 32 % (TOP + 1), 3)):
            self.assertEqual(reckoned(read_expression(text), names, boxes), number, text)


if __name__ == "__main__":
    unittest.main()
