"""Houses: paths, which thread is ready, turns and their entries, where threads stand and what they wait for."""

import unittest
from copy import deepcopy

from surejoin.errors import NoTurn
from surejoin.house import House
from surejoin.texts import read
from tests.small import TOP, drawn_text, plain_parts, refusal

BOXES = "most m\nset s\nonce o\nrow r\nmap p\n"
OTHERS = "\njob f a\ntell a\nend\njob g\nend"


def house_of(lines, steps=400, boxes=None, others=OTHERS):
    """The lines of main begin in line 7."""
    return House(read(BOXES + "\n".join(["job main"] + lines + ["end"]) + others), steps, boxes)


def all_told(house):
    return deepcopy((house.ready(), house.states(), house.clashed(), house.standing(), house.wanting()))


def turns(house, *paths):
    return [house.turn(path) for path in paths]


class TestPaths(unittest.TestCase):
    def test_main_and_its_threads(self):
        house = house_of(["begin f 5 1", "begin f 5 2", "begin g 5", "tell 9"])
        self.assertEqual(house.ready(), [()])
        self.assertEqual(house.turn(()), ((), 7, ("begin", "f", 5, [1])))
        self.assertEqual(house.ready(), [(), (0,)])
        self.assertEqual(house.turn(()), ((), 8, ("begin", "f", 5, [2])))
        self.assertEqual(house.ready(), [(), (0,), (1,)])
        house.turn((0,))
        self.assertEqual(house.ready(), [(), (1,)])
        house.turn(())
        self.assertEqual(house.ready(), [(), (1,)])
        self.assertEqual(house.standing(), [
            ((), "goes", 10, 3, []), ((0,), "done", 14, 1, [1]), ((1,), "goes", 13, 0, []), ((2,), "done", 16, 0, []),
        ])

    def test_threads_of_threads(self):
        others = "\njob f a\nif a\nbegin f * 20 a - a 1\nbegin f 2 0\nend\nend"
        house = house_of(["begin f 300 3", "tell 1"], 400, None, others)
        while house.ready():
            house.turn(house.ready()[-1])
        self.assertEqual([thread[0] for thread in house.standing()], [
            (), (0,), (0, 0), (0, 0, 0), (0, 0, 0, 0), (0, 0, 0, 1), (0, 0, 1), (0, 1),
        ])

    def test_ten_and_more_begun_by_one_rise_by_their_numbers(self):
        house = house_of(["while < i 12", "begin f 3 i", "let i + i 1", "end"])
        while () in house.ready():
            house.turn(())
        self.assertEqual(house.ready(), [(n,) for n in range(12)])
        self.assertEqual([thread[0] for thread in house.standing()], [()] + [(n,) for n in range(12)])
        house.turn((10,))
        house.turn((2,))
        self.assertEqual([thread[4] for thread in house.standing()[1:]], [[]] * 2 + [[2]] + [[]] * 7 + [[10]] + [[]])

    def test_each_path_ahead_of_those_that_go_on_from_it(self):
        others = "\njob f a\nif a\nbegin f 20 0\nend\ntell 1\nend"
        house = house_of(["begin f 100 1", "begin f 100 1", "tell 1"], 400, None, others)
        turns(house, (), (), (1,), (1,), (0,), (0,))
        self.assertEqual(house.ready(), [(), (0,), (0, 0), (1,), (1, 0)])
        self.assertEqual([thread[0] for thread in house.standing()], [(), (0,), (0, 0), (1,), (1, 0)])

    def test_paths_are_by_the_order_of_begins_of_that_thread_alone(self):
        others = "\njob f a\nbegin g 5\nbegin g 6\nend\njob g\ntell 1\nend"
        house = house_of(["begin f 50 1", "begin f 50 2"], 400, None, others)
        turns(house, (), (), (1,), (0,), (0,), (1,))
        self.assertEqual([thread[0] for thread in house.standing()], [(), (0,), (0, 0), (0, 1), (1,), (1, 0), (1, 1)])

    def test_told_as_tuples_and_lists(self):
        house = house_of(["begin f 5 1", "get x o"])
        entry = house.turn(())
        self.assertEqual(plain_parts(entry), plain_parts(((), 7, ("begin", "f", 5, [1]))))
        self.assertEqual(plain_parts(house.ready()), [list, [tuple, [int]]])
        self.assertEqual(plain_parts(house.standing()[0]), plain_parts(((), "waits", 8, 1, [])))
        self.assertEqual(plain_parts(house.wanting()), plain_parts([((), "o", "held", 0)]))


class TestEntries(unittest.TestCase):
    def test_of_each_sort_of_row(self):
        house = house_of([
            "let x - 0 1", "put m x", "put s 3", "put o 4", "put r 1 1 2", "put p 6 7", "wait m least 5", "wait s has 3",
            "wait p has 6", "wait r many 3", "get y o", "tell y", "get y r 2", "tell y", "get y p 6", "tell y",
            "if y", "else", "end", "while 0", "end", "begin f 9 y", "stop", "tell 1",
        ])
        told = []
        while () in house.ready():
            told.append(house.turn(()))
        self.assertEqual(told, [((), line, deed) for line, deed in (
            (7, ("let", "x", TOP)), (8, ("put", "m", [TOP])), (9, ("put", "s", [3])), (10, ("put", "o", [4])),
            (11, ("put", "r", [1, 1, 2])), (12, ("put", "p", [(6, 7)])), (13, ("pass", "m", "least", 5, None)),
            (14, ("pass", "s", "has", 3, None)), (15, ("pass", "p", "has", 6, None)),
            (16, ("pass", "r", "many", 3, None)), (17, ("pass", "o", "held", 0, 4)), (18, ("tell", 4)),
            (19, ("pass", "r", "item", 2, 2)), (20, ("tell", 2)), (21, ("pass", "p", "item", 6, 7)), (22, ("tell", 7)),
            (23, ("test", 7)), (26, ("test", 0)), (28, ("begin", "f", 9, [7])), (29, ("stop",)),
        )])
        self.assertEqual(house.standing()[0], ((), "done", 29, 20, [4, 2, 7]))

    def test_where_an_expression_has_no_number(self):
        for line in (
            "let x {}", "put o {}", "put r 1 {}", "wait m least {}", "get x r {}", "tell {}", "if {}\nend",
            "while {}\nend", "begin f {} 1", "begin f 1 {}",
        ):
            house = house_of(["tell 4", line.replace("{}", "rem 4 y"), "tell 5"])
            self.assertEqual(turns(house, (), ()), [((), 7, ("tell", 4)), ((), 8, ("nought",))])
            self.assertEqual(house.standing(), [((), "nought", 8, 2, [4])])
            self.assertEqual((house.ready(), house.wanting(), house.states()), ([], [], [[], [], [], [], []]))

    def test_a_wait_or_get_without_a_number_does_not_wait(self):
        for line in ("wait m least div 1 0", "wait s has rem 0 0", "get x r div 1 y", "get x p + 1 div 2 0"):
            house = house_of([line])
            self.assertEqual((house.ready(), house.wanting()), ([()], []))
            self.assertEqual(house.standing(), [((), "goes", 7, 0, [])])
            self.assertEqual(house.turn(()), ((), 7, ("nought",)))
            self.assertEqual(house.standing(), [((), "nought", 7, 1, [])])


class TestWaiting(unittest.TestCase):
    def test_waits_that_pass_at_once(self):
        states = [[5], [2, 6], [7], [1, 1, 8], [(3, 9)]]
        for line, deed in (
            ("wait m least 5", ("pass", "m", "least", 5, None)), ("wait m least 0", ("pass", "m", "least", 0, None)),
            ("wait m many 1", ("pass", "m", "many", 1, None)), ("wait s has 6", ("pass", "s", "has", 6, None)),
            ("wait s many 2", ("pass", "s", "many", 2, None)), ("wait o many 1", ("pass", "o", "many", 1, None)),
            ("get x o", ("pass", "o", "held", 0, 7)), ("get x r 2", ("pass", "r", "item", 2, 8)),
            ("get x r 0", ("pass", "r", "item", 0, 1)), ("wait r many 3", ("pass", "r", "many", 3, None)),
            ("get x p 3", ("pass", "p", "item", 3, 9)), ("wait p has 3", ("pass", "p", "has", 3, None)),
            ("wait p many 0", ("pass", "p", "many", 0, None)),
        ):
            house = house_of([line, "tell x"], 400, states)
            self.assertEqual((house.ready(), house.wanting()), ([()], []), line)
            self.assertEqual(house.standing(), [((), "goes", 7, 0, [])])
            self.assertEqual(house.turn(()), ((), 7, deed))
            self.assertEqual(house.turn(()), ((), 8, ("tell", deed[4] or 0)))
            self.assertEqual(house.states(), states)

    def test_waits_that_do_not_pass(self):
        states = [[5], [2, 6], [], [1, 1, 8], [(3, 9)]]
        for line, want in (
            ("wait m least 6", ("m", "least", 6)), ("wait m many 2", ("m", "many", 2)), ("wait s has 3", ("s", "has", 3)),
            ("wait s many 3", ("s", "many", 3)), ("get x o", ("o", "held", 0)), ("wait o many 1", ("o", "many", 1)),
            ("get x r 3", ("r", "item", 3)), ("wait r many + 2 2", ("r", "many", 4)), ("get x p 9", ("p", "item", 9)),
            ("wait p has 0", ("p", "has", 0)), ("wait p has - 0 1", ("p", "has", TOP)),
        ):
            house = house_of(["tell 1", line, "tell x"], 400, states)
            house.turn(())
            self.assertEqual(house.ready(), [], line)
            self.assertEqual(house.wanting(), [((),) + want])
            self.assertEqual(house.standing(), [((), "waits", 8, 1, [1])])
            before = all_told(house)
            self.assertIs(refusal(house.turn, ()), NoTurn)
            self.assertEqual(all_told(house), before)

    def test_waits_that_pass_later(self):
        others = "\njob f a\nput m a\nput s a\nput p a + a 1\nput o a\nput r a a\nend"
        for line, count, deed in (
            ("wait m least 4", 1, ("pass", "m", "least", 4, None)), ("wait s has 4", 2, ("pass", "s", "has", 4, None)),
            ("get x p 4", 3, ("pass", "p", "item", 4, 5)), ("get x o", 4, ("pass", "o", "held", 0, 4)),
            ("get x r 1", 5, ("pass", "r", "item", 1, 4)), ("wait r many 2", 5, ("pass", "r", "many", 2, None)),
        ):
            house = house_of(["begin f 50 4", line, "tell x"], 400, None, others)
            house.turn(())
            for _ in range(count):
                self.assertEqual(house.ready(), [(0,)])
                self.assertEqual(house.wanting(), [((),) + deed[1:4]])
                self.assertEqual(house.standing()[0], ((), "waits", 8, 1, []))
                house.turn((0,))
            self.assertEqual(house.ready()[0], ())
            self.assertEqual(house.wanting(), [])
            self.assertEqual(house.standing()[0], ((), "goes", 8, 1, []))
            self.assertEqual(house.turn(()), ((), 8, deed))

    def test_what_waits_by_rising_paths(self):
        others = "\njob f a\nwait s has a\nend\njob g\nbegin f 5 7\nget x p 3\nend"
        lines = ["begin f 5 9", "begin g 50", "begin f 5 8", "begin f 0 8", "begin f 5 1", "get x o"]
        house = house_of(lines, 400, [[], [1], [], [], []], others)
        while house.ready() not in ([], [(4,)]):
            house.turn([path for path in house.ready() if path != (4,)][-1])
        self.assertEqual(house.wanting(), [
            ((), "o", "held", 0), ((0,), "s", "has", 9), ((1,), "p", "item", 3), ((1, 0), "s", "has", 7),
            ((2,), "s", "has", 8),
        ])
        self.assertEqual(house.standing(), [
            ((), "waits", 12, 5, []), ((0,), "waits", 15, 0, []), ((1,), "waits", 19, 1, []),
            ((1, 0), "waits", 15, 0, []), ((2,), "waits", 15, 0, []), ((3,), "tired", 15, 0, []),
            ((4,), "goes", 15, 0, []),
        ])

    def test_a_wait_where_no_step_is_left_is_no_waiting(self):
        for line in ("wait m least 1", "get x o", "wait m many 0"):
            house = house_of(["tell 1", line], 1)
            house.turn(())
            self.assertEqual((house.ready(), house.wanting()), ([], []))
            self.assertEqual(house.standing(), [((), "tired", 8, 1, [1])])


class TestEnds(unittest.TestCase):
    def test_ended_ahead_of_all_turns(self):
        for steps in (0, 5):
            house = house_of([], steps)
            self.assertEqual(house.standing(), [((), "done", 7, 0, [])])
            self.assertEqual((house.ready(), house.wanting()), ([], []))
        house = house_of(["tell 1"], 0)
        self.assertEqual(house.standing(), [((), "tired", 7, 0, [])])
        self.assertEqual((house.ready(), house.wanting()), ([], []))

    def test_words_and_lines(self):
        others = "\njob f a\ntell 1\nif a\nstop\nend\ntell div 6 b\nend\njob g\nend\njob h\ntell 3\nend"
        lines = ["begin f 9 1", "begin f 9 0", "begin f 1 1", "begin g 0", "begin h 0", "begin h 1", "begin h 2", "stop"]
        house = house_of(lines, 400, None, others)
        while house.ready():
            house.turn(house.ready()[0])
        self.assertEqual(house.standing(), [
            ((), "done", 14, 8, []), ((0,), "done", 19, 3, [1]), ((1,), "nought", 21, 3, [1]),
            ((2,), "tired", 18, 1, [1]), ((3,), "done", 24, 0, []), ((4,), "tired", 26, 0, []),
            ((5,), "done", 27, 1, [3]), ((6,), "done", 27, 1, [3]),
        ])

    def test_a_thread_begun_with_no_steps_is_never_ready(self):
        house = house_of(["begin f 0 1", "tell 1"])
        house.turn(())
        self.assertEqual(house.ready(), [()])
        self.assertIs(refusal(house.turn, (0,)), NoTurn)

    def test_steps_are_handed_on(self):
        house = house_of(["begin f 3 1", "tell 2", "tell 3"], 5, None, "\njob f a\nwhile 1\ntell a\nend\nend")
        self.assertEqual(house.turn(())[2], ("begin", "f", 3, [1]))
        while house.ready():
            house.turn(house.ready()[-1])
        self.assertEqual(house.standing(), [((), "tired", 9, 2, [2]), ((0,), "tired", 13, 3, [1])])

    def test_all_steps_together_are_no_more_than_those_handed_in(self):
        for seed in range(40):
            for steps in (1, 7, 60, 400):
                house = House(read(drawn_text(seed)), steps)
                count = 0
                while house.ready():
                    house.turn(house.ready()[count % len(house.ready())])
                    count += 1
                self.assertEqual(sum(thread[3] for thread in house.standing()), count)
                self.assertLessEqual(count, steps)


class TestNoTurn(unittest.TestCase):
    def test_refused_and_nothing_changes(self):
        others = "\njob f a\nwait s has a\ntell a\nend\njob g\nend"
        house = house_of(["begin f 5 1", "begin g 5", "begin f 5 2", "put s 2", "tell 1"], 400, None, others)
        turns(house, (), (), (), ())
        self.assertEqual(house.ready(), [(), (2,)])
        before = all_told(house)
        for path in (
            (0,), (1,), (3,), (-1,), (2, 0), (0, 0), (1, 1), (0, 0, 0), (2, 2), (10 ** 50,), (-10 ** 50, 3), (2,) * 500,
        ):
            with self.assertRaises(NoTurn):
                house.turn(path)
            self.assertIs(refusal(house.turn, path), NoTurn, path)
            self.assertEqual(all_told(house), before)
        self.assertEqual(turns(house, (2,), ()), [((2,), 14, ("pass", "s", "has", 2, None)), ((), 11, ("tell", 1))])
        self.assertIs(refusal(house.turn, ()), NoTurn)

    def test_a_thread_that_is_not_begun_yet(self):
        house = house_of(["begin f 5 1"])
        self.assertIs(refusal(house.turn, (0,)), NoTurn)
        house.turn(())
        self.assertEqual(house.turn((0,)), ((0,), 10, ("tell", 1)))
        self.assertIs(refusal(house.turn, (0,)), NoTurn)

    def test_just_those_that_are_ready_are_taken(self):
        for seed in range(30):
            house = House(read(drawn_text(seed)), 50)
            count = 0
            while house.ready():
                for path, word, line, used, told in house.standing():
                    self.assertEqual(path in house.ready(), word == "goes")
                    if word != "goes":
                        self.assertIs(refusal(house.turn, path), NoTurn)
                waiting = [thread[0] for thread in house.standing() if thread[1] == "waits"]
                self.assertEqual([want[0] for want in house.wanting()], waiting)
                before = house.standing()
                path = house.ready()[count % len(house.ready())]
                entry = house.turn(path)
                self.assertEqual((entry[0], entry[1]), (path, [thread[2] for thread in before if thread[0] == path][0]))
                count += 1


if __name__ == "__main__":
    unittest.main()
