"""Joins in the boxes of a house, and clashes."""

import unittest
from copy import deepcopy

from surejoin.errors import NoTurn
from surejoin.house import House
from surejoin.texts import read
from tests.small import refusal

BOXES = "most m\nset s\nonce o\nrow r\nmap p\n"


def house_of(lines, boxes=None, others=""):
    """The lines of main begin in line 7."""
    return House(read(BOXES + "\n".join(["job main"] + lines + ["end"]) + others), 400, boxes)


def go_on(house):
    log = []
    while () in house.ready():
        log.append(house.turn(()))
    return log


class TestJoins(unittest.TestCase):
    def check(self, lines, place, states, first=None):
        """The states of one box behind each of the puts; the other boxes stay."""
        boxes = [[], [], [], [], []]
        boxes[place] = first or []
        house = house_of(lines, deepcopy(boxes))
        for state in states:
            house.turn(())
            boxes[place] = state
            self.assertEqual(house.states(), boxes)
        self.assertIsNone(house.clashed())
        self.assertEqual(house.ready(), [])

    def test_of_each_kind(self):
        self.check(["put m 3", "put m 5", "put m 4", "put m 0"], 0, [[3], [5], [5], [5]])
        self.check(["put s 3", "put s 1", "put s 3", "put s 0"], 1, [[3], [1, 3], [1, 3], [0, 1, 3]])
        self.check(["put o 3", "put o 3"], 2, [[3], [3]])
        self.check(["put r 3", "put r 3 1 3", "put r 3 1", "put r 3 1 3 3"], 3, [[3], [3, 1, 3], [3, 1, 3], [3, 1, 3, 3]])
        self.check(["put p 3 1", "put p 0 2", "put p 3 1"], 4, [[(3, 1)], [(0, 2), (3, 1)], [(0, 2), (3, 1)]])

    def test_with_what_was_handed_in(self):
        self.check(["put m 3", "put m 9"], 0, [[5], [9]], [5])
        self.check(["put s 3", "put s 2"], 1, [[2, 3, 7], [2, 3, 7]], [2, 7])
        self.check(["put o 0"], 2, [[0]], [0])
        self.check(["put r 3", "put r 3 1 2 5"], 3, [[3, 1, 2], [3, 1, 2, 5]], [3, 1, 2])
        self.check(["put p 0 1", "put p 2 3"], 4, [[(0, 1), (2, 3)], [(0, 1), (2, 3)]], [(2, 3)])

    def test_a_put_that_brings_nothing_new_is_an_entry(self):
        house = house_of(["put m 3", "put r 3"], [[5], [], [], [3, 1], []])
        self.assertEqual(go_on(house), [((), 7, ("put", "m", [3])), ((), 8, ("put", "r", [3]))])
        self.assertEqual(house.states(), [[5], [], [], [3, 1], []])

    def test_boxes_in_the_order_of_their_lines(self):
        house = House(read("map z\nset a\nmap b\njob main\nput b 1 2\nput a 3\nput z 4 5\nend"), 9)
        go_on(house)
        self.assertEqual(house.states(), [[(4, 5)], [3], [(1, 2)]])

    def test_most_and_set_boxes_never_clash(self):
        house = house_of([f"put {box} {n}" for n in (5, 0, 999999999, 3) for box in "ms"], [[7], [4], [], [], []])
        go_on(house)
        self.assertIsNone(house.clashed())
        self.assertEqual(house.states()[:2], [[999999999], [0, 3, 4, 5, 999999999]])


class TestClash(unittest.TestCase):
    def check(self, lines, clash, states, boxes=None):
        house = house_of(lines, boxes)
        log = go_on(house)
        self.assertEqual(house.clashed(), clash)
        self.assertEqual(house.states(), states)
        self.assertEqual(log[-1][:2], clash[3:])
        self.assertEqual(log[-1][2][:2], ("put", clash[0]))
        self.assertEqual(house.ready(), [])
        for path in ((), (0,), (5, 5)):
            self.assertIs(refusal(house.turn, path), NoTurn)
        self.assertEqual((house.clashed(), house.states(), house.ready()), (clash, states, []))
        self.assertIs(type(house.clashed()), tuple)

    def test_of_once_boxes(self):
        self.check(["put o 1", "put o 2", "tell 1"], ("o", (), 7, (), 8), [[], [], [1], [], []])
        self.check(["put o 1", "put o 1", "put o 0"], ("o", (), 7, (), 9), [[], [], [1], [], []])

    def test_of_row_boxes(self):
        self.check(["put r 1", "put r 2"], ("r", (), 7, (), 8), [[], [], [], [1], []])
        self.check(["put r 1", "put r 1 2", "put r 1 3"], ("r", (), 8, (), 9), [[], [], [], [1, 2], []])
        self.check(["put r 1 2 3", "put r 1", "put r 1 2", "put r 1 3"], ("r", (), 7, (), 10), [[], [], [], [1, 2, 3], []])

    def test_of_map_boxes(self):
        self.check(["put p 1 1", "put p 1 2"], ("p", (), 7, (), 8), [[], [], [], [], [(1, 1)]])
        self.check(["put p 1 1", "put p 2 2", "put p 3 3", "put p 2 3"], ("p", (), 8, (), 10),
                   [[], [], [], [], [(1, 1), (2, 2), (3, 3)]])

    def test_the_first_put_with_which_it_has_no_join(self):
        # The first of all fits; the box as it is then doesn't; another one stands between.
        self.check(["put r 1", "put r 1 2", "put r 1 2 3", "put r 1 2 3 4", "put r 1 2 4"], ("r", (), 9, (), 11),
                   [[], [], [], [1, 2, 3, 4], []])
        self.check(["put p 9 9", "put p 4 0", "put p 4 0", "put p 4 1"], ("p", (), 8, (), 10),
                   [[], [], [], [], [(4, 0), (9, 9)]])

    def test_puts_that_brought_nothing_new_stand_between(self):
        self.check(["put r 1 2 3", "put r 1 2", "put r 2"], ("r", (), 7, (), 9), [[], [], [], [1, 2, 3], []])
        self.check(["put r 1", "put r 1 2", "put r 1", "put r 1 2", "put r 1 3"], ("r", (), 8, (), 11),
                   [[], [], [], [1, 2], []])
        self.check(["put o 5", "put o 5", "put o 6"], ("o", None, 0, (), 9), [[], [], [5], [], []], [[], [], [5], [], []])
        self.check(["put p 1 1", "put p 2 2", "put p 1 1", "put p 2 2", "put p 2 0"], ("p", (), 8, (), 11),
                   [[], [], [], [], [(1, 1), (2, 2)]])

    def test_the_order_is_that_of_turns_not_of_lines_or_paths(self):
        text = "row r\njob main\nput r 1 2\nbegin f 9\nput r 1 3\nend\njob f\nput r 1 2 4\nend"
        house = House(read(text), 90, [[1]])
        for path in ((), (), (0,), ()):
            house.turn(path)
        self.assertEqual(house.clashed(), ("r", (), 3, (), 5))
        text = "once o\njob main\nbegin f 9\nput o 1\nput o 1\nput o 2\nend\njob f\nput o 1\nend"
        for paths, first in (([(0,), (), (), ()], ((0,), 9)), ([(), (0,), (), ()], ((), 4)), ([(), (), ()], ((), 4))):
            house = House(read(text), 90)
            for path in [()] + paths:
                house.turn(path)
            self.assertEqual(house.clashed(), ("o",) + first + ((), 6))

    def test_with_the_state_that_was_handed_in(self):
        self.check(["put o 1"], ("o", None, 0, (), 7), [[], [], [2], [], []], [[], [], [2], [], []])
        self.check(["put r 1", "put r 1 2", "put r 1 3"], ("r", None, 0, (), 9), [[], [], [], [1, 2], []],
                   [[], [], [], [1, 2], []])
        self.check(["put r 1 2 3", "put r 1 2 4"], ("r", (), 7, (), 8), [[], [], [], [1, 2, 3], []], [[], [], [], [1, 2], []])
        self.check(["put p 2 3", "put p 1 0", "put p 7 7"], ("p", None, 0, (), 8), [[], [], [], [], [(1, 1), (2, 3)]],
                   [[], [], [], [], [(1, 1)]])
        self.check(["put p 2 3", "put p 2 4"], ("p", (), 7, (), 8), [[], [], [], [], [(1, 1), (2, 3)]],
                   [[], [], [], [], [(1, 1)]])

    def test_puts_to_other_boxes_do_not_count(self):
        text = "once a\nonce b\njob main\nput a 1\nput b 2\nput a 1\nput b 3\nend"
        house = House(read(text), 9)
        go_on(house)
        self.assertEqual(house.clashed(), ("b", (), 5, (), 7))
        self.assertEqual(house.states(), [[1], [2]])

    def test_paths_of_both_threads(self):
        others = "\njob f a\nput o a\ntell 1\nend\njob g\nbegin f 5 8\nbegin f 5 8\nbegin f 5 9\ntell 1\nend"
        for paths, clash in (
            ([(0,), (1, 0)], ("o", (0,), 13, (1, 0), 13)),
            ([(1, 0), (0,)], ("o", (1, 0), 13, (0,), 13)),
            ([(1, 1), (1, 0), (1, 2)], ("o", (1, 1), 13, (1, 2), 13)),
            ([(1, 0), (1, 1), ()], ("o", (1, 0), 13, (), 9)),
            ([(), (1, 2)], ("o", (), 9, (1, 2), 13)),
        ):
            house = house_of(["begin f 5 7", "begin g 50", "put o 7", "tell 1"], None, others)
            for path in [(), (), (1,), (1,), (1,)] + paths:
                self.assertIsNone(house.clashed())
                entry = house.turn(path)
            self.assertEqual(house.clashed(), clash)
            self.assertEqual(entry, (paths[-1], clash[4], ("put", "o", entry[2][2])))
            self.assertEqual(house.ready(), [])
            for path in [(), (0,), (1,), (1, 0), (1, 1), (1, 2), (2,)]:
                self.assertIs(refusal(house.turn, path), NoTurn)
            self.assertEqual(house.clashed(), clash)

    def test_none_as_long_as_there_is_none(self):
        house = house_of(["put o 1", "put o 1"])
        self.assertIsNone(house.clashed())
        go_on(house)
        self.assertIsNone(house.clashed())

    def test_a_put_without_a_number_is_no_clash(self):
        house = house_of(["put o 1", "put o div 1 0"])
        go_on(house)
        self.assertIsNone(house.clashed())
        self.assertEqual(house.standing(), [((), "nought", 8, 2, [])])

    def test_with_the_last_step(self):
        house = House(read("once o\njob main\nput o 1\nput o 2\nend"), 2)
        go_on(house)
        self.assertEqual(house.clashed(), ("o", (), 3, (), 4))
        house = House(read("once o\njob main\nput o 1\nput o 2\nend"), 1)
        go_on(house)
        self.assertIsNone(house.clashed())


if __name__ == "__main__":
    unittest.main()
