"""Runs: picks, the log, and the fields of an outcome."""

import unittest
from copy import deepcopy

from surejoin.house import House
from surejoin.runs import run
from surejoin.texts import read
from tests.small import Draw, drawn_text, plain_parts

PICKS = (
    None, [], [0], [1], [5], [0, 1], [1, 0], [2, 0, 1], [7, 3, 11, 1, 0, 2], list(range(50)), [10 ** 49 + 7, 10 ** 50 - 1],
    [999999999] * 3 + [0], list(range(1000)),
)
FIELDS = ("log", "clash", "boxes", "threads", "waits", "answers")


def by_house(program, steps, picks, boxes):
    """The same turns taken in a house, one after another."""
    house = House(program, steps, boxes)
    log = []
    left = []
    while True:
        ready = house.ready()
        if not ready:
            return log, house
        if not left:
            left = list(picks or [0])
        log.append(house.turn(ready[left.pop(0) % len(ready)]))


class TestPicks(unittest.TestCase):
    def test_the_log_is_what_a_house_tells(self):
        clashes = 0
        for seed in range(50):
            program = read(drawn_text(seed, seed % 3 > 0))
            for picks in PICKS:
                for steps, boxes in ((25, None), (120, [[2], [1], [], [3], [(1, 4)]])):
                    log, house = by_house(program, steps, picks, boxes)
                    told = run(program, steps, picks, boxes)
                    self.assertEqual(told.log, log)
                    self.assertEqual(plain_parts(told.log), plain_parts(log))
                    self.assertEqual(told.clash, house.clashed())
                    self.assertEqual(told.boxes, house.states())
                    if told.clash is None:
                        self.assertEqual((told.threads, told.waits), (house.standing(), house.wanting()))
                    else:
                        clashes += 1
                        self.assertEqual((told.threads, told.waits, told.answers), ([], [], []))
        self.assertGreater(clashes, 20)

    def test_which_thread_a_pick_takes(self):
        text = "job main\nbegin f 9 1\nbegin f 9 2\ntell 0\nend\njob f a\ntell a\ntell a\nend"
        for picks, paths in (
            (None, [(), (), (), (0,), (0,), (1,), (1,)]),
            ([], [(), (), (), (0,), (0,), (1,), (1,)]),
            ([0], [(), (), (), (0,), (0,), (1,), (1,)]),
            ([1], [(), (0,), (0,), (), (1,), (1,), ()]),
            ([2], [(), (), (1,), (1,), (), (0,), (0,)]),
            ([3], [(), (0,), (0,), (), (1,), (1,), ()]),
            ([0, 0, 3], [(), (), (), (0,), (0,), (1,), (1,)]),
            ([0, 0, 4], [(), (), (0,), (), (0,), (1,), (1,)]),
            ([0, 0, 2, 1], [(), (), (1,), (0,), (), (0,), (1,)]),
            ([0, 0, 2, 1, 0, 0, 0, 5, 5, 5], [(), (), (1,), (0,), (), (0,), (1,)]),
            ([6 * 10 ** 49], [(), (), (), (0,), (0,), (1,), (1,)]),
            ([6 * 10 ** 49 + 1], [(), (0,), (0,), (), (1,), (1,), ()]),
            ([0, 0, 10 ** 50 - 1, 10 ** 50 - 2], [(), (), (), (0,), (0,), (1,), (1,)]),
        ):
            self.assertEqual([entry[0] for entry in run(read(text), 400, picks).log], paths, picks)

    def test_picks_are_used_again_from_the_first(self):
        text = "job main\nbegin f 20 1\nwhile < i 4\nlet i + i 1\nend\nend\njob f a\nwhile < i 4\nlet i + i 1\nend\nend"
        program = read(text)
        for picks in ([0, 1], [0, 0, 1], [1, 1, 0, 1, 0]):
            again = (picks * 40)[:100]
            self.assertEqual(run(program, 100, picks).log, run(program, 100, again).log)
        self.assertEqual([len(entry[0]) for entry in run(program, 100, [0, 1]).log[1:]], [1, 0] * 9)


TEXT = """most m
set s
once o
row r
map p
job main
begin f 20 3
begin f 20 1
wait s many 2
tell 8
get x o
end
job f a
put m a
put s a
put r 7 8
put p a + a 1
tell a
tell 9
end
ask size m
ask held m
ask size s
ask has s 3
ask has s 2
ask size o
ask held o
ask size r
ask item r 1
ask item r 2
ask size p
ask has p 1
ask has p 2
ask item p 3
ask item p 2
ask x
ask + item p 3 * 10 held m
ask div 7 0
ask rem 7 x
ask div 7 size o
ask - 0 1
ask 5"""


class TestOutcome(unittest.TestCase):
    def test_fields(self):
        for picks in PICKS:
            told = run(read(TEXT), 400, picks)
            self.assertIsNone(told.clash)
            self.assertEqual(told.boxes, [[3], [1, 3], [], [7, 8], [(1, 2), (3, 4)]])
            self.assertEqual(told.threads, [
                ((), "waits", 11, 4, [8]), ((0,), "done", 20, 6, [3, 9]), ((1,), "done", 20, 6, [1, 9]),
            ])
            self.assertEqual(told.waits, [((), "o", "held", 0)])
            self.assertEqual(told.answers, [
                1, 3, 2, 1, 0, 0, 0, 2, 8, 0, 2, 1, 0, 4, 0, 0, 34, None, None, None, 999999999, 5,
            ])
            self.assertEqual(len(told.log), 16)
            for name in FIELDS:
                if name != "clash":
                    self.assertIs(type(getattr(told, name)), list)
            self.assertNotIn("bool", repr(plain_parts(told.answers)))

    def test_with_boxes_handed_in(self):
        told = run(read(TEXT), 400, None, [[9], [3, 5], [6], [7, 8, 8], [(2, 2)]])
        self.assertEqual(told.boxes, [[9], [1, 3, 5], [6], [7, 8, 8], [(1, 2), (2, 2), (3, 4)]])
        self.assertEqual(told.answers[:9], [1, 9, 3, 1, 0, 1, 6, 3, 8])
        self.assertEqual(told.answers[19], 7)
        self.assertEqual(told.threads[0], ((), "done", 12, 5, [8]))
        self.assertEqual(told.waits, [])

    def test_with_a_clash(self):
        text = "once o\nmost m\njob main\ntell 3\nput m 4\nput o 1\nput o 2\nput m 5\nend\nask held m\nask 5"
        told = run(read(text), 400)
        self.assertEqual(told.clash, ("o", (), 6, (), 7))
        self.assertEqual(told.log, [
            ((), 4, ("tell", 3)), ((), 5, ("put", "m", [4])), ((), 6, ("put", "o", [1])), ((), 7, ("put", "o", [2])),
        ])
        self.assertEqual(told.boxes, [[1], [4]])
        self.assertEqual((told.threads, told.waits, told.answers), ([], [], []))
        told = run(read(text), 400, [1], [[7], []])
        self.assertEqual(told.clash, ("o", None, 0, (), 6))
        self.assertEqual(told.boxes, [[7], [4]])

    def test_nothing_at_all(self):
        told = run(read("job main\nend"), 0)
        self.assertEqual(
            (told.log, told.clash, told.boxes, told.threads, told.waits, told.answers),
            ([], None, [], [((), "done", 2, 0, [])], [], []),
        )

    def test_no_asks(self):
        self.assertEqual(run(read("most m\njob main\nput m 1\nend"), 9).answers, [])

    def test_a_name_called_like_a_box_or_a_parameter_is_0_in_an_ask(self):
        text = "most x\njob main\nlet x 4\nput x x\nend\nask x\nask held x\nask div 1 x"
        self.assertEqual(run(read(text), 9).answers, [0, 4, None])

    def test_an_ask_reckons_from_left_to_right_with_parts_ahead(self):
        text = "row r\nmap p\njob main\nput r 2 0\nput p 2 5\nend\nask item p item r 0\nask item r div 1 item r 1\n" \
               "ask has p - item r 0 0\nask + size r div 1 item r 9"
        self.assertEqual(run(read(text), 9).answers, [5, None, 1, None])

    def test_a_run_goes_on_until_none_is_ready(self):
        for seed in range(60):
            program = read(drawn_text(seed))
            draw = Draw(seed)
            told = run(program, 90, [draw.below(10 ** 9) for _ in range(32)])
            self.assertEqual({thread[1] for thread in told.threads} - {"done", "tired", "nought", "waits"}, set())
            self.assertEqual([want[0] for want in told.waits], [path for path, word, *_ in told.threads if word == "waits"])
            self.assertEqual(sum(thread[3] for thread in told.threads), len(told.log))

    def test_asked_again_the_same(self):
        program = read(TEXT)
        first = deepcopy(vars(run(program, 30, [3, 1])))
        run(program, 7, [2])
        self.assertEqual(vars(run(program, 30, [3, 1])), first)


if __name__ == "__main__":
    unittest.main()
