"""What is promised over the whole program: for all turns, all numbers of steps and all boxes handed in."""

import unittest

from surejoin.alone import alone
from surejoin.house import House
from surejoin.kinds import kind_of
from surejoin.reckoning import reckoned
from surejoin.runs import apart, run
from surejoin.texts import read
from tests.small import KINDS, Draw, drawn_text

# The boxes of drawn programs, in their order.
NAMES = ("m", "s", "o", "r", "p")
EMPTY = [[], [], [], [], []]
LITTLE = [
    EMPTY, [[1], [0], [], [], []], [[], [2], [], [3], []], [[], [], [5], [3, 1], []], [[2], [], [], [], [(1, 4), (3, 4)]],
    [[0], [1, 3], [5], [3, 1, 3], [(0, 4)]],
]
MORE = [[[3], [0, 1, 2], [5], [3, 1, 3, 2, 9], [(0, 4), (2, 4)]], [[9], [7], [], [3], [(1, 4)]], [[], [], [6], [], []]]


def drawn_picks(seed):
    draw = Draw(seed)
    return [draw.below(10 ** 9) for _ in range(32)]


def all_picks(seed):
    return (None, [1], [10 ** 50 - 1], [2, 1], [0, 0, 0, 5]) + tuple(drawn_picks(seed + n) for n in (1, 2, 3))


def joined_states(states, more):
    """All boxes with more in them; None where some don't fit."""
    told = [kind_of(word).joined(one, other) for word, one, other in zip(KINDS, states, more)]
    return None if None in told else told


def all_under(states, others):
    return all(kind_of(word).under(one, other) for word, one, other in zip(KINDS, states, others))


def begun_threads(log, steps):
    """By their paths: job, numbers and steps of each thread of a run."""
    begun, counts = {(): ("main", [], steps)}, {}
    for path, _, deed in log:
        if deed[0] == "begin":
            begun[path + (counts.get(path, 0),)] = (deed[1], deed[3], deed[2])
            counts[path] = counts.get(path, 0) + 1
    return begun


def deeds_of(log, path):
    return [(line, deed) for there, line, deed in log if there == path]


def but_for_steps(deeds):
    return [(line, deed[:2] + deed[3:] if deed[0] == "begin" else deed) for line, deed in deeds]


class TestWhole(unittest.TestCase):
    def drawn(self, count):
        for seed in range(count):
            program = read(drawn_text(seed, seed % 2 == 0))
            yield seed, program, (7, 20, 60, 150, 400)[seed % 5], LITTLE[seed % len(LITTLE)]

    def test_the_outcome_never_hangs_on_the_turns(self):
        clashes, unlike = 0, 0
        for seed, program, steps, boxes in self.drawn(160):
            first = run(program, steps, None, boxes)
            for picks in all_picks(seed):
                told = run(program, steps, picks, boxes)
                self.assertEqual(told.clash is None, first.clash is None)
                self.assertLessEqual(len(told.log), steps)
                unlike += told.log != first.log
                if first.clash is None:
                    self.assertEqual(told.threads, first.threads)
                    self.assertEqual(told.waits, first.waits)
                    self.assertEqual(told.boxes, first.boxes)
                    self.assertEqual(told.answers, first.answers)
                    self.assertEqual(sorted(map(repr, told.log)), sorted(map(repr, first.log)))
            clashes += first.clash is not None
        self.assertGreater(clashes, 10)
        self.assertGreater(unlike, 300)

    def test_a_run_is_what_boxes_and_threads_make_of_it(self):
        for seed, program, steps, boxes in self.drawn(120):
            told = run(program, steps, drawn_picks(seed), boxes)
            states = dict(zip(NAMES, boxes))
            kinds = dict(zip(NAMES, [kind_of(word) for word in KINDS]))
            for place, (path, line, deed) in enumerate(told.log):
                if deed[0] == "put":
                    joined = kinds[deed[1]].joined(states[deed[1]], deed[2])
                    if joined is None:
                        self.assertEqual((place, told.clash[0]), (len(told.log) - 1, deed[1]))
                        self.assertEqual(told.clash[3:], (path, line))
                    else:
                        self.assertTrue(kinds[deed[1]].under(states[deed[1]], joined))
                        states[deed[1]] = joined
                if deed[0] == "pass":
                    self.assertTrue(kinds[deed[1]].passes(states[deed[1]], deed[2], deed[3]))
                    self.assertEqual(kinds[deed[1]].gives(states[deed[1]], deed[2], deed[3]), deed[4])
            self.assertEqual(told.boxes, [states[name] for name in NAMES])
            for path, box, word, n in told.waits:
                self.assertFalse(kinds[box].passes(states[box], word, n))
            # What a wait passed with holds from then on.
            for path, line, deed in told.log:
                if deed[0] == "pass":
                    self.assertEqual(kinds[deed[1]].gives(states[deed[1]], deed[2], deed[3]), deed[4])
            if told.clash is None:
                by_names = {name: (word, states[name]) for name, word in zip(NAMES, KINDS)}
                self.assertEqual(told.answers, [reckoned(E, {}, by_names) for _, E in program[2]])

    def test_each_thread_does_what_it_does_alone(self):
        ends = {}
        for seed, program, steps, boxes in self.drawn(160):
            told = run(program, steps, drawn_picks(seed), boxes)
            begun = begun_threads(told.log, steps)
            if told.clash is None:
                self.assertEqual([thread[0] for thread in told.threads], sorted(begun))
            for path, (name, numbers, handed) in begun.items():
                deeds = deeds_of(told.log, path)
                given = [deed[4] for _, deed in deeds if deed[0] == "pass"]
                story = alone(program, name, numbers, handed, given)
                if told.clash is None:
                    self.assertEqual([(path,) + story[1:]], [thread for thread in told.threads if thread[0] == path])
                    self.assertEqual(deeds, story[0])
                    ends[story[1]] = ends.get(story[1], 0) + 1
                else:
                    self.assertEqual(deeds, story[0][:len(deeds)])
        self.assertEqual(sorted(ends), ["done", "nought", "tired", "waits"])
        self.assertGreater(min(ends.values()), 20)

    def test_neighbours_that_are_apart_change_places(self):
        swapped = 0
        for seed, program, steps, boxes in self.drawn(200):
            told = run(program, min(steps, 60), drawn_picks(seed), boxes)
            if told.clash is not None:
                continue
            for place in range(min(len(told.log) - 1, 40)):
                if not apart(told.log[place], told.log[place + 1]):
                    continue
                log = list(told.log)
                log[place], log[place + 1] = log[place + 1], log[place]
                house = House(program, min(steps, 60), boxes)
                self.assertEqual([house.turn(entry[0]) for entry in log], log)
                self.assertIsNone(house.clashed())
                self.assertEqual((house.ready(), house.states()), ([], told.boxes))
                self.assertEqual((house.standing(), house.wanting()), (told.threads, told.waits))
                swapped += 1
        self.assertGreater(swapped, 200)

    def test_some_that_are_not_apart_may_not_change_places(self):
        text = "once o\njob main\nbegin f 5\nget x o\nend\njob f\nput o 1\nend"
        log = run(read(text), 50).log
        self.assertEqual([entry[0] for entry in log], [(), (0,), ()])
        self.assertFalse(apart(log[0], log[1]) or apart(log[1], log[2]))

    def check_more(self, less, more):
        """Of two runs, one with less and one with more."""
        if more.clash is not None:
            return False
        self.assertIsNone(less.clash)
        self.assertTrue(all_under(less.boxes, more.boxes))
        there = {thread[0]: thread for thread in more.threads}
        for path, word, line, used, told in less.threads:
            self.assertIn(path, there)
            self.assertLessEqual(used, there[path][3])
            self.assertEqual(told, there[path][4][:len(told)])
            deeds = but_for_steps(deeds_of(less.log, path))
            self.assertEqual(deeds, but_for_steps(deeds_of(more.log, path))[:len(deeds)])
            if word in ("done", "nought"):
                self.assertEqual(there[path][1:], (word, line, used, told))
        return True

    def test_with_more_in_the_boxes(self):
        count = 0
        for seed, program, steps, boxes in self.drawn(120):
            less = run(program, steps, drawn_picks(seed), boxes)
            for other in MORE + LITTLE:
                states = joined_states(boxes, other)
                if states is not None:
                    count += self.check_more(less, run(program, steps, drawn_picks(seed + 1), states))
        self.assertGreater(count, 400)

    def test_with_more_steps(self):
        count = 0
        for seed, program, steps, boxes in self.drawn(120):
            before = run(program, 0, None, boxes)
            for more in (1, 2, 3, 5, 9, 17, 40, 41, 90, 200, 399, 400):
                told = run(program, more, drawn_picks(seed + more), boxes)
                count += self.check_more(before, told)
                before = told
        self.assertGreater(count, 800)

    def test_with_more_of_both(self):
        for seed, program, steps, boxes in self.drawn(60):
            less = run(program, steps // 2, drawn_picks(seed), boxes)
            states = joined_states(boxes, MORE[0])
            if states is not None:
                self.check_more(less, run(program, steps, None, states))


SMALL = (
    "once o\njob main\nbegin f 5 1\nbegin f 5 1\nget x o\ntell x\nend\njob f a\nput o a\ntell a\nend\nask held o",
    "once o\njob main\nbegin f 5 1\nbegin f 5 2\nget x o\ntell x\nend\njob f a\nput o a\ntell a\nend\nask held o",
    "set s\njob main\nbegin f 5 1\nbegin f 5 2\nwait s many 2\ntell 9\nend\njob f a\nput s a\nwait s has - 3 a\nend",
    "row r\njob main\nbegin f 9\nput r 1 2\nget x r 2\ntell x\nend\njob f\nget y r 1\nput r 1 2 + y 1\nend\nask item r 2",
    "row r\njob main\nbegin f 9\nput r 1 2\nend\njob f\nput r 1\nput r 1 3\nend",
    "map p\njob main\nbegin f 2 1\nbegin f 9 1\nput p 3 3\nend\njob f a\nput p a 7\nput p 2 a\nget x p 3\ntell x\nend",
    "most m\njob main\nbegin f 6\nwait m least 2\nput m 3\nend\njob f\nput m 2\nbegin g 2\nwait m least 3\nend\n"
    "job g\nput m 1\nend\nask held m",
    "most m\njob main\nbegin f 3\nput m 1\nif 0\nend\nend\njob f\nwait m many 1\ntell div 1 0\nend\nask size m",
    "set s\nonce o\njob main\nbegin f 4 1\nbegin f 4 2\nbegin f 4 3\nend\njob f a\nput s a\nwait s has 2\nput o 5\nend",
    "row r\njob main\nbegin f 4 1\nbegin f 4 2\nbegin f 4 1\nend\njob f a\nput r 4\nget x r 1\ntell x\nput r 4 a\nend",
    "row r\njob main\nbegin f 4 1\nbegin f 4 2\nput r 4 1\nend\njob f a\nput r 4\nget x r 1\nput r 4 x a\nend",
)


class TestAllTurns(unittest.TestCase):
    def all_houses(self, program, steps, boxes):
        """The houses behind all rows of turns that there are, none is ready any more in any of them."""
        left = [[]]
        while left:
            paths = left.pop()
            house = House(program, steps, boxes)
            for path in paths:
                house.turn(path)
            if not house.ready():
                yield house
            left += [paths + [path] for path in house.ready()]

    def test_all_turns_of_small_programs(self):
        count = 0
        for text in SMALL:
            program = read(text)
            for steps in (0, 1, 3, 6, 9, 13, 400):
                told = run(program, steps)
                for house in self.all_houses(program, steps, None):
                    self.assertEqual(house.clashed() is None, told.clash is None)
                    if told.clash is None:
                        self.assertEqual(house.states(), told.boxes)
                        self.assertEqual(house.standing(), told.threads)
                        self.assertEqual(house.wanting(), told.waits)
                    count += 1
        self.assertGreater(count, 1000)

    def test_some_of_them_clash(self):
        self.assertEqual([run(read(text), 400).clash is not None for text in SMALL],
                         [False, True, False, False, True, False, False, False, False, False, True])


if __name__ == "__main__":
    unittest.main()
