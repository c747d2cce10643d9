"""Stories of threads alone: their form, that they are the asker's own, and drawn programs told another way."""

import unittest
from copy import deepcopy

from surejoin.alone import alone
from surejoin.reckoning import reckoned
from surejoin.texts import read
from tests.small import Draw, drawn_text, plain_parts

KINDS = {"m": "most", "s": "set", "o": "once", "r": "row", "p": "map"}


class Over(Exception):
    pass


class Teller:
    """Goes through a job's statements themselves, without rows; what waits and gets are given is drawn and kept."""

    def __init__(self, job, numbers, steps, most_given, seed):
        self.job, self.left, self.most_given = job, steps, most_given
        self.names = dict(zip(job[1], numbers))
        self.draw = Draw(seed)
        self.deeds, self.told, self.given = [], [], []

    def story(self):
        word, line = "done", self.job[4]
        try:
            self.go(self.job[2])
        except Over as over:
            word, line = over.args
        return (self.deeds, word, line, len(self.deeds), self.told)

    def go(self, body):
        for statement in body:
            if statement[0] == "while":
                while self.one(statement):
                    self.go(statement[3])
            elif statement[0] == "if":
                self.go(statement[3] if self.one(statement) else statement[4] or [])
            else:
                self.one(statement)

    def number(self, line, E):
        n = reckoned(E, self.names, {})
        if n is None:
            self.deeds.append((line, ("nought",)))
            raise Over("nought", line)
        return n

    def hand_over(self, line, number):
        if len(self.given) == self.most_given:
            raise Over("waits", line)
        self.given.append(number)
        self.left -= 1
        return number

    def one(self, statement):
        word, line = statement[:2]
        if self.left == 0:
            raise Over("tired", line)
        if word in ("wait", "get"):
            self.pass_by(statement)
            return None
        self.left -= 1
        if word == "stop":
            self.deeds.append((line, ("stop",)))
            raise Over("done", line)
        return getattr(self, "do_" + word)(line, *statement[2:])

    def pass_by(self, statement):
        word, line = statement[:2]
        if word == "wait":
            box, n = statement[2], self.number(line, statement[4])
            deed = ("pass", box, statement[3], n, self.hand_over(line, None))
        elif statement[4] is None:
            deed = ("pass", statement[3], "held", 0, self.hand_over(line, self.draw.below(6)))
        else:
            n = self.number(line, statement[4])
            deed = ("pass", statement[3], "item", n, self.hand_over(line, self.draw.below(6)))
        self.deeds.append((line, deed))
        if word == "get":
            self.names[statement[2]] = deed[4]

    def do_let(self, line, x, E):
        self.names[x] = self.number(line, E)
        self.deeds.append((line, ("let", x, self.names[x])))

    def do_put(self, line, b, Es):
        numbers = [self.number(line, E) for E in Es]
        self.deeds.append((line, ("put", b, [(numbers[0], numbers[1])] if KINDS[b] == "map" else numbers)))

    def do_tell(self, line, E):
        self.told.append(self.number(line, E))
        self.deeds.append((line, ("tell", self.told[-1])))

    def do_begin(self, line, f, E, args):
        first = self.number(line, E)
        numbers = [self.number(line, arg) for arg in args]
        handed = min(first, self.left)
        self.left -= handed
        self.deeds.append((line, ("begin", f, handed, numbers)))

    def do_if(self, line, E, *inside):
        n = self.number(line, E)
        self.deeds.append((line, ("test", n)))
        return n

    do_while = do_if


def handed_on(story):
    return sum(deed[2] for _, deed in story[0] if deed[0] == "begin")


def but_for_steps(deeds):
    return [(line, deed[:2] + deed[3:] if deed[0] == "begin" else deed) for line, deed in deeds]


class TestDrawnStories(unittest.TestCase):
    def all_tellers(self, seeds):
        for seed in seeds:
            program = read(drawn_text(seed))
            for job in program[1]:
                numbers = [(seed + place) % 4 for place in range(len(job[1]))]
                for steps in (0, 1, 2, 3, 5, 8, 13, 40, 400):
                    yield program, job, numbers, steps, seed

    def test_told_as_by_going_through_the_statements(self):
        ends = {}
        for program, job, numbers, steps, seed in self.all_tellers(range(120)):
            for most_given in (0, 1, 3, 400):
                teller = Teller(job, numbers, steps, most_given, seed)
                expected = teller.story()
                more = [] if expected[1] == "waits" else [None, 7][:seed % 3]
                told = alone(program, job[0], numbers, steps, teller.given + more)
                self.assertEqual(told, expected)
                self.assertEqual(plain_parts(told), plain_parts(expected))
                ends[told[1]] = ends.get(told[1], 0) + 1
        self.assertEqual(sorted(ends), ["done", "nought", "tired", "waits"])
        self.assertGreater(min(ends.values()), 500)

    def test_with_more_given_the_deeds_are_a_beginning(self):
        for program, job, numbers, steps, seed in self.all_tellers(range(60)):
            teller = Teller(job, numbers, steps, 400, seed)
            teller.story()
            last = alone(program, job[0], numbers, steps, teller.given)
            for count in range(min(len(teller.given), 12)):
                told = alone(program, job[0], numbers, steps, teller.given[:count])
                self.assertEqual(told[1], "waits")
                self.assertEqual(told[0], last[0][:len(told[0])])
                self.assertEqual(told[4], last[4][:len(told[4])])
                self.assertEqual(len([1 for _, deed in told[0] if deed[0] == "pass"]), count)

    def test_with_more_steps_the_deeds_are_a_beginning_but_for_steps_handed_on(self):
        for seed in range(60):
            program = read(drawn_text(seed))
            for job in program[1]:
                numbers = [2] * len(job[1])
                teller = Teller(job, numbers, 400, 400, seed)
                teller.story()
                before = alone(program, job[0], numbers, 0, teller.given)
                for steps in range(1, 60):
                    told = alone(program, job[0], numbers, steps, teller.given)
                    self.assertEqual(but_for_steps(before[0]), but_for_steps(told[0])[:len(before[0])])
                    self.assertEqual(before[4], told[4][:len(before[4])])
                    for (_, deed), (_, later) in zip(before[0], told[0]):
                        if deed[0] == "begin":
                            self.assertLessEqual(deed[2], later[2])
                    before = told

    def test_what_is_used_and_handed_on_is_no_more_than_the_steps(self):
        for program, job, numbers, steps, seed in self.all_tellers(range(60)):
            teller = Teller(job, numbers, steps, 400, seed)
            teller.story()
            told = alone(program, job[0], numbers, steps, teller.given)
            self.assertEqual(told[3], len(told[0]))
            self.assertLessEqual(told[3] + handed_on(told), steps)
            if told[1] == "tired":
                self.assertEqual(told[3] + handed_on(told), steps)


TEXT = """row r
map p
once o
job main
put r 1 2 3
put p 4 5
get x o
begin f 9 x 1
while < i 2
let i + i 1
tell i
end
wait p has 4
end
job f a b
tell + a b
end"""


class TestForm(unittest.TestCase):
    def test_a_tuple_of_five(self):
        told = alone(read(TEXT), "main", [], 400, [6, None])
        self.assertEqual(told, (
            [(5, ("put", "r", [1, 2, 3])), (6, ("put", "p", [(4, 5)])), (7, ("pass", "o", "held", 0, 6)),
             (8, ("begin", "f", 9, [6, 1])), (9, ("test", 1)), (10, ("let", "i", 1)), (11, ("tell", 1)),
             (9, ("test", 1)), (10, ("let", "i", 2)), (11, ("tell", 2)), (9, ("test", 0)),
             (13, ("pass", "p", "has", 4, None))],
            "done", 14, 12, [1, 2],
        ))
        self.assertEqual([type(part) for part in told], [list, str, int, int, list])
        self.assertIs(type(told), tuple)
        for pair in told[0]:
            self.assertEqual((type(pair), type(pair[0]), type(pair[1])), (tuple, int, tuple))

    def test_no_truths_are_told(self):
        lines = ["tell < 1 2", "tell = 1 2", "let x = 1 1", "put m < x 2", "if < 1 2", "end", "begin f = 1 1 < 2 1",
                 "wait m least = 1 1"]
        program = read("most m\njob main\n" + "\n".join(lines) + "\nend\njob f a\nend")
        told = alone(program, "main", [], 400, [None])
        self.assertNotIn("bool", repr(plain_parts(told)))
        self.assertEqual(told[4], [1, 0])

    def test_empty_lists_where_nothing_was_done(self):
        self.assertEqual(alone(read("job main\nend"), "main", [], 5, []), ([], "done", 2, 0, []))

    def test_jobs_with_none_to_four_parameters(self):
        for count in range(5):
            params = "a b c d".split()[:count]
            text = "job main\nend\n" + " ".join(["job", "f"] + params) + "\n" + "\n".join(
                f"tell {name}" for name in "abcd") + "\nend"
            numbers = [5, 6, 7, 8][:count]
            told = alone(read(text), "f", numbers, 9, [])
            self.assertEqual(told[1:], ("done", 8, 4, numbers + [0] * (4 - count)))


class TestOwn(unittest.TestCase):
    def change(self, told):
        told[0][0][1][2].append("changed")
        for _, deed in told[0]:
            for part in deed:
                if isinstance(part, list):
                    part.insert(0, "changed")
        told[0].append("changed")
        told[4].append("changed")
        del told[0][0]

    def test_what_was_handed_in_stays(self):
        program, numbers, given = read(TEXT), [3, 4], [6, None, 7]
        before = deepcopy((program, numbers, given))
        self.change(alone(program, "main", [], 400, given))
        told = alone(program, "f", numbers, 400, given)
        told[0].clear()
        told[4].clear()
        self.assertEqual((program, numbers, given), before)

    def test_asked_again_the_same(self):
        program = read(TEXT)
        kept = deepcopy(alone(program, "main", [], 400, [6, None]))
        for _ in range(3):
            told = alone(program, "main", [], 400, [6, None])
            self.assertEqual(told, kept)
            self.change(told)
        self.assertEqual(alone(deepcopy(program), "main", [], 400, [6, None]), kept)
        alone(program, "main", [], 3, [])
        alone(program, "f", [1, 2], 3, [])
        self.assertEqual(alone(program, "main", [], 400, [6, None]), kept)

    def test_a_story_stays_when_what_was_handed_in_is_changed(self):
        program, numbers, given = read(TEXT), [3, 4], [6, None]
        first, second = alone(program, "main", [], 400, given), alone(program, "f", numbers, 400, [])
        kept = deepcopy((first, second))
        program[1][0][2][0][3].clear()
        program[1].clear()
        numbers.clear()
        given.clear()
        self.assertEqual((first, second), kept)


if __name__ == "__main__":
    unittest.main()
