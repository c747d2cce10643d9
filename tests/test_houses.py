"""What a house and a run refuse, and that what is handed in and told is each one's own."""

import unittest
from copy import deepcopy

from surejoin.errors import Hangs, JoinError, NoBoxes, NoSteps
from surejoin.house import House
from surejoin.runs import run
from surejoin.texts import read
from tests.small import TOP, drawn_text, refusal

TEXT = """most m
set s
once o
row r
map p
job main
put r 1 2
put p 4 5
begin f 9 1 2
tell 7
wait m least 3
get x o
tell x
end
job f a b
put s a
tell a
wait s many 3
end
ask item p 4"""
STATES = [[3], [1, 5], [6], [1, 2, 3], [(0, 1), (4, 5)]]
NO_STEPS = (-1, 401, -10 ** 50, 10 ** 50, True, False, None, "5", "", [5], [], (5,), {}, 5.0, 0.5, float("nan"))


def run_in(program, steps, boxes=None):
    return run(program, steps, None, boxes)


class TestRefused(unittest.TestCase):
    def setUp(self):
        self.program = read(TEXT)
        self.hanging = [
            read("most m\njob main\ntell size m\nend"), read("most m\njob main\nend\njob f\nif held m\nend\nend"),
            read("set s\njob f a\nend\njob main\nwhile 0\nbegin f 1 has s 1\nend\nend\nask 1"),
        ]

    def check(self, expected, program, *handed):
        for called in (House, run_in):
            self.assertIs(refusal(called, program, *handed), expected, handed)
            if expected is not None:
                with self.assertRaises(ValueError):
                    called(program, *handed)
                with self.assertRaises(JoinError):
                    called(program, *handed)

    def test_a_program_that_is_not_let(self):
        for program in self.hanging:
            for steps in (0, 5, 400):
                self.check(Hangs, program, steps)
            self.check(Hangs, program, 5, [[]])

    def test_a_program_whose_asks_alone_have_looks_is_taken(self):
        self.check(None, read("most m\njob main\nend\nask size m\nask held m"), 5)
        self.check(None, self.program, 5)

    def test_steps(self):
        for steps in NO_STEPS:
            self.check(NoSteps, self.program, steps)
            self.check(NoSteps, self.program, steps, STATES)
        for steps in (0, 1, 399, 400):
            self.check(None, self.program, steps)

    def test_boxes_that_are_no_list(self):
        for boxes in ((), tuple(STATES), {}, {0: []}, "", "m", 0, 5, True, False, range(5), 1.5, House):
            self.check(NoBoxes, self.program, 5, boxes)

    def test_too_few_and_too_many(self):
        for boxes in ([], [[]], [[]] * 4, [[]] * 6, STATES[:4], STATES + [[]], [None] * 5):
            self.check(NoBoxes, self.program, 5, boxes)
        nothing = read("job main\nend")
        self.check(None, nothing, 5, [])
        self.check(None, nothing, 5, None)
        for boxes in ([[]], [None], (), {}, 0, False, ""):
            self.check(NoBoxes, nothing, 5, boxes)

    def test_states_of_another_kind(self):
        wrong = {
            0: ([1, 2], [(1, 2)], [[1]], (1,), 1, None, "1", {1: 2}, True),
            1: ([2, 1], [1, 1], [(1, 2)], (1, 2), {1}, None, "12"),
            2: ([1, 2], [1, 1], [(1, 2)], (), None, 0, ""),
            3: ([(1, 2)], [[1]], (1, 2), None, "12", [None]),
            4: ([1], [[1, 2]], [(1, 2, 3)], [(1,)], [(2, 1), (1, 1)], [(1, 1), (1, 2)], ((1, 2),), {1: 2}, None),
        }
        for place, things in wrong.items():
            for thing in things:
                boxes = deepcopy(STATES)
                boxes[place] = thing
                self.check(NoBoxes, self.program, 5, boxes)
        self.check(NoBoxes, self.program, 5, STATES[::-1])

    def test_truths_and_numbers_out_of_the_range_within_states(self):
        for n in (True, False, -1, TOP + 1, 10 ** 50, 1.0, None, "1", [1]):
            for place in range(4):
                boxes = [[], [], [], [], []]
                boxes[place] = [n]
                self.check(NoBoxes, self.program, 5, boxes)
            for pair in ((n, 1), (1, n)):
                self.check(NoBoxes, self.program, 5, [[], [], [], [], [pair]])
        for n in (0, TOP):
            self.check(None, self.program, 5, [[n], [n], [n], [n], [(n, n)]])

    def test_none_and_lists_of_states_are_taken(self):
        for boxes in (None, [[], [], [], [], []], STATES, [[0], [], [TOP], [1, 1, 1], []]):
            self.check(None, self.program, 5, boxes)
        self.assertEqual(House(self.program, 5).states(), [[], [], [], [], []])
        self.assertEqual(House(self.program, 5, None).states(), [[], [], [], [], []])
        self.assertEqual(House(self.program, 5, STATES).states(), STATES)

    def test_the_order_of_refusals(self):
        for steps in NO_STEPS:
            for boxes in ((), [], [[1, 2]], 7):
                for program in self.hanging:
                    self.check(Hangs, program, steps, boxes)
                self.check(NoSteps, self.program, steps, boxes)
        for boxes in ((), [[1, 2]], 7):
            self.check(Hangs, self.hanging[0], 5, boxes)

    def test_a_run_refuses_with_picks_too(self):
        self.assertIs(refusal(run, self.hanging[0], -1, [1], 7), Hangs)
        self.assertIs(refusal(run, self.program, -1, [1], 7), NoSteps)
        self.assertIs(refusal(run, self.program, 1, [1], 7), NoBoxes)

    def test_what_is_refused_stays(self):
        program, boxes = read(TEXT), [[1, 2], [2, 1], [], [], []]
        before = deepcopy((program, boxes))
        self.check(NoBoxes, program, 5, boxes)
        self.assertEqual((program, boxes), before)


def all_told(house):
    return deepcopy((house.ready(), house.states(), house.clashed(), house.standing(), house.wanting()))


def spoil(thing):
    """Changes all lists in a thing."""
    if isinstance(thing, (list, tuple)):
        for part in thing:
            spoil(part)
    if isinstance(thing, list):
        thing.insert(0, "changed")
        thing.append("changed")


def spoil_program(program):
    for job in program[1]:
        for statement in job[2]:
            spoil(statement)
        job[1].clear()
        job[2].clear()
    for part in program:
        part.clear()


class TestOwn(unittest.TestCase):
    def test_what_is_handed_in_stays(self):
        for seed in range(20):
            program, boxes, picks = read(drawn_text(seed, seed % 2 == 0)), deepcopy(STATES), [1, 5, 2]
            boxes[2], boxes[3] = [], []
            before = deepcopy((program, boxes, picks))
            outcome = run(program, 100, picks, boxes)
            self.assertEqual((program, boxes, picks), before)
            for name in ("log", "clash", "boxes", "threads", "waits", "answers"):
                spoil(getattr(outcome, name))
            self.assertEqual((program, boxes, picks), before)
            house = House(program, 100, boxes)
            while house.ready():
                spoil(house.turn(house.ready()[-1]))
            spoil(house.states())
            self.assertEqual((program, boxes, picks), before)

    def test_what_is_done_to_it_behind_the_call_changes_nothing(self):
        for steps in (0, 1, 2, 5):
            program, boxes = read(TEXT), [[], [5], [6], [1], [(0, 1)]]
            house, other = House(program, 100, boxes), House(read(TEXT), 100, deepcopy(boxes))
            for _ in range(steps):
                house.turn(house.ready()[0])
                other.turn(other.ready()[0])
            spoil(boxes)
            spoil_program(program)
            while other.ready():
                self.assertEqual(house.turn(house.ready()[0]), other.turn(other.ready()[0]))
                self.assertEqual(all_told(house), all_told(other))

    def test_a_state_handed_in_that_is_changed_later_changes_no_clash(self):
        boxes = [[1, 2], [5], [(3, 4)]]
        for place, line in ((0, "put r 1 3"), (1, "put o 6"), (2, "put p 3 5")):
            handed = deepcopy(boxes)
            house = House(read(f"row r\nonce o\nmap p\njob main\n{line}\nend"), 9, handed)
            handed[place].clear()
            handed.clear()
            house.turn(())
            self.assertEqual(house.clashed(), ("rop"[place], None, 0, (), 5))
            self.assertEqual(house.states(), boxes)

    def test_an_outcome_stays_when_what_was_handed_in_is_changed(self):
        program, boxes, picks = read(TEXT), [[], [5], [6], [1], [(0, 1)]], [2, 1]
        outcome = run(program, 100, picks, boxes)
        kept = deepcopy(vars(outcome))
        spoil(boxes)
        spoil(picks)
        spoil_program(program)
        self.assertEqual(vars(outcome), kept)

    def test_what_is_told_is_the_askers_own(self):
        house, other = House(read(TEXT), 100, STATES), House(read(TEXT), 100, STATES)
        while other.ready():
            for told in (house.ready(), house.states(), house.standing(), house.wanting()):
                spoil(told)
            self.assertEqual(all_told(house), all_told(other))
            path = other.ready()[-1]
            entry = house.turn(path)
            self.assertEqual(entry, other.turn(path))
            spoil(entry)
        self.assertEqual(all_told(house), all_told(other))

    def test_an_entry_that_is_changed_changes_no_later_clash(self):
        text = "row r\njob main\nput r 1 2\nput r 1 2 3\nput r 1 2 4\nend"
        house = House(read(text), 100)
        spoil(house.turn(()))
        self.assertEqual(house.states(), [[1, 2]])
        spoil(house.turn(()))
        self.assertEqual(house.states(), [[1, 2, 3]])
        spoil(house.turn(()))
        self.assertEqual(house.clashed(), ("r", (), 4, (), 5))
        self.assertEqual(house.states(), [[1, 2, 3]])

    def test_an_entry_of_a_begin_that_is_changed_changes_no_thread(self):
        house = House(read("job main\nbegin f 9 3 4\nend\njob f a b\ntell a\ntell b\nend"), 100)
        spoil(house.turn(()))
        house.turn((0,))
        house.turn((0,))
        self.assertEqual(house.standing()[1], ((0,), "done", 7, 2, [3, 4]))

    def test_what_was_told_does_not_change_with_later_turns(self):
        house = House(read(TEXT), 100)
        told, kept = [], []
        while house.ready():
            told.append((house.ready(), house.states(), house.standing(), house.wanting(), house.turn(house.ready()[0])))
            kept.append(deepcopy(told[-1]))
        self.assertEqual(told, kept)

    def test_two_houses_of_one_program_go_their_own_ways(self):
        program = read(TEXT)
        one, other = House(program, 100), House(program, 100)
        before = all_told(other)
        while one.ready():
            one.turn(one.ready()[0])
        self.assertEqual(all_told(other), before)
        last = all_told(one)
        while other.ready():
            other.turn(other.ready()[-1])
        self.assertEqual(all_told(one), last)
        self.assertEqual(all_told(other), last)

    def test_two_outcomes_of_one_program_are_two(self):
        program = read(TEXT)
        one = run(program, 100, None, STATES)
        kept = deepcopy(vars(one))
        for value in vars(one).values():
            spoil(value)
        self.assertEqual(vars(run(program, 100, None, STATES)), kept)
        self.assertEqual(sorted(kept), ["answers", "boxes", "clash", "log", "threads", "waits"])

    def test_asked_again_the_same(self):
        for seed in range(10):
            house = House(read(drawn_text(seed, False)), 60)
            while house.ready():
                first = all_told(house)
                self.assertEqual(all_told(house), first)
                house.turn(house.ready()[0])
            self.assertEqual(all_told(house), all_told(house))


if __name__ == "__main__":
    unittest.main()
