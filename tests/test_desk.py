import unittest

from surejoin.desk import answered
from surejoin.errors import NoHead, NoKind, NoLine, NoName, NoNest, TooMuch
from surejoin.looks import looks
from surejoin.runs import run
from surejoin.texts import read
from tests.small import drawn_text, refusal


def sheet_of(text, steps=400, picks=()):
    return "\n".join([f"steps {steps}", " ".join(["picks"] + [str(n) for n in picks]), text])


class TestHangs(unittest.TestCase):
    def test_one_line_for_each_look_of_its_jobs(self):
        for text, answer in (
            ("most m\njob main\ntell size m\nend", "hangs 3 size"),
            ("most m\njob main\nend\njob f\nif held m\nend\nend", "hangs 5 held"),
            ("row r\njob main\nput r item r 0 size r\nend\nask size r", "hangs 3 item\nhangs 3 size"),
            ("set s\njob f a\nwhile has s size s\nend\nend\njob main\nbegin f size s has s 1\nend",
             "hangs 3 has\nhangs 3 size\nhangs 7 size\nhangs 7 has"),
        ):
            for steps in (0, 400):
                self.assertEqual(answered(sheet_of(text, steps)), answer)
            program = read(text)
            self.assertEqual(answer, "\n".join(f"hangs {line} {word}" for line, word in looks(program)))

    def test_looks_of_asks_alone_do_not_hang(self):
        self.assertEqual(answered(sheet_of("most m\njob main\nend\nask size m")), "thread main done 3 0\nbox m\nask 0")

    def test_ahead_of_a_clash(self):
        text = "once o\njob main\nput o 1\nput o 2\ntell held o\nend"
        self.assertEqual(answered(sheet_of(text)), "hangs 5 held")


class TestClash(unittest.TestCase):
    def test_paths(self):
        text = "once o\njob main\nbegin g 50\nbegin g 9\nput o 1\nput o 1\nput o 2\nend\njob g\nbegin h 5\nbegin h 5\n" \
               "begin f 5\nput o 4\nend\njob f\nput o 3\nend\njob h\nend"
        for picks, answer in (
            ([], "clash o main 5 main 7"),
            ([1], "clash o 0 13 0.2 16"),
            ([0, 1, 1, 1, 0, 0, 2], "clash o main 5 0.2 16"),
            ([0, 1, 1, 1, 2], "clash o 0.2 16 0 13"),
        ):
            self.assertEqual(answered(sheet_of(text, 400, picks)), answer)

    def test_nothing_else_is_told(self):
        text = "once o\nmost m\njob main\ntell 3\nput m 1\nput o 1\nput o 2\nend\nask size m\nask 5"
        self.assertEqual(answered(sheet_of(text)), "clash o main 6 main 7")

    def test_ten_and_more(self):
        text = "map p\njob main\nwhile < i 12\nbegin f 9 i\nlet i + i 1\nend\nend\n" \
               "job f a\nput p div a 11 div a 10\nput p 1 7\nend"
        self.assertEqual(answered(sheet_of(text)), "clash p 0 9 10 9")


TEXT = """most m
set s
once o
row r
map p
most n
set t
once u
row v
map w
job main
begin f 20 3
begin f 20 0
tell 0
wait s many 2
get x u
end
job f a
put m a
put s a
put o 5
put r 7 7 8
put p a + a 1
if a
begin g 4
tell a
tell 999999999
end
end
job g
tell 1
tell div 1 0
end
ask held m
ask item p 3
ask div 1 size w
ask x
ask size n"""
ANSWER = """thread main waits 16 4 0
thread 0 done 29 9 3 999999999
thread 0.0 nought 32 2 1
thread 1 done 29 6
box m 3
box s 0 3
box o 5
box r 7 7 8
box p 0:1 3:4
box n
box t
box u
box v
box w
ask 3
ask 4
ask none
ask 0
ask 0"""


class TestAnswers(unittest.TestCase):
    def test_threads_boxes_and_asks(self):
        for picks in ((), (1,), (2, 0, 1), (999999999, 3), tuple(range(32))):
            self.assertEqual(answered(sheet_of(TEXT, 400, picks)), ANSWER)

    def test_a_thread_alone(self):
        self.assertEqual(answered(sheet_of("job main\nend")), "thread main done 2 0")
        self.assertEqual(answered(sheet_of("job main\nend", 0)), "thread main done 2 0")
        self.assertEqual(answered(sheet_of("job main\ntell 4\nend", 0)), "thread main tired 2 0")
        self.assertEqual(answered(sheet_of("job main\ntell 4\ntell 4\nend", 1)), "thread main tired 3 1 4")
        self.assertEqual(answered(sheet_of("job main\ntell 4\nstop\nend")), "thread main done 3 2 4")
        self.assertEqual(answered(sheet_of("job main\ntell 0\ntell 0\nend")), "thread main done 4 2 0 0")

    def test_states_of_each_kind(self):
        for kind, puts, line in (
            ("most", ["5"], "box b 5"), ("set", ["5", "0"], "box b 0 5"), ("once", ["0"], "box b 0"),
            ("row", ["2 1 1 0"], "box b 2 1 1 0"), ("map", ["3 4", "0 0"], "box b 0:0 3:4"), ("most", [], "box b"),
            ("set", [], "box b"), ("once", [], "box b"), ("row", [], "box b"), ("map", [], "box b"),
        ):
            text = "\n".join([f"{kind} b", "job main"] + [f"put b {E}" for E in puts] + ["end"])
            self.assertEqual(answered(sheet_of(text)), f"thread main done {len(puts) + 3} {len(puts)}\n{line}")

    def test_asks(self):
        text = "job main\nend\nask 0\nask - 0 1\nask div 1 0\nask rem 1 x\nask x"
        self.assertEqual(answered(sheet_of(text)), "thread main done 2 0\nask 0\nask 999999999\nask none\nask none\nask 0")

    def test_paths_of_many_threads(self):
        text = "job main\nwhile < i 12\nbegin f 9 i\nlet i + i 1\nend\nend\njob f a\nif = a 10\nbegin f 3 0\nend\nend"
        lines = answered(sheet_of(text)).split("\n")
        self.assertEqual([line.split(" ")[1] for line in lines], [
            "main", "0", "1", "2", "3", "4", "5", "6", "7", "8", "9", "10", "10.0", "11",
        ])

    def test_steps_and_picks_of_the_sheet_are_used(self):
        text = "once o\njob main\nbegin f 9\nput o 1\nend\njob f\nput o 2\nend"
        self.assertEqual(answered(sheet_of(text, 400)), "clash o main 4 0 7")
        self.assertEqual(answered(sheet_of(text, 400, [1])), "clash o 0 7 main 4")
        self.assertEqual(answered(sheet_of(text, 2)), "thread main tired 4 1\nthread 0 done 8 1\nbox o 2")
        self.assertEqual(answered(sheet_of(text, 1)), "thread main tired 4 1\nthread 0 tired 7 0\nbox o")

    def test_no_line_end_and_no_blank_too_many(self):
        for seed in range(60):
            told = answered(sheet_of(drawn_text(seed, seed % 2 == 0), 60, [seed, 1, 2]))
            self.assertIs(type(told), str)
            for line in told.split("\n"):
                self.assertNotEqual(line, "")
                self.assertNotIn("", line.split(" "))

    def test_told_as_the_outcome_of_a_run(self):
        for seed in range(60):
            text, picks = drawn_text(seed, seed % 2 == 0), [seed, 0, 3]
            outcome = run(read(text), 80, picks)
            lines = []
            for path, word, line, used, told in outcome.threads:
                called = repr(path).strip("(),").replace(", ", ".") or "main"
                lines.append(" ".join(map(str, ["thread", called, word, line, used] + told)))
            if outcome.clash is not None:
                box, *rest = outcome.clash
                rest = [part if isinstance(part, int) else repr(part).strip("(),").replace(", ", ".") or "main" for part in rest]
                lines = [" ".join(map(str, ["clash", box] + rest))]
            else:
                for name, state in zip("msorp", outcome.boxes):
                    lines.append(" ".join(["box", name] + [str(n).strip("()").replace(", ", ":") for n in state]))
                lines += ["ask " + str(n).lower() for n in outcome.answers]
            self.assertEqual(answered(sheet_of(text, 80, picks)), "\n".join(lines))


class TestRefused(unittest.TestCase):
    def test_as_by_read(self):
        for text, expected in (
            ("\n".join(["job main"] + ["tell 1"] * 149 + ["end"]), TooMuch), ("\n" * 150, TooMuch), ("", NoLine),
            ("\n", NoLine), ("job main\nend\n", NoLine), ("job main\nend\n\nask 1", NoLine), ("job main\ntell\nend", NoLine),
            ("job main", NoNest), ("tell 1", NoNest), ("job main\nend\nmost m", NoNest), ("job f\nend", NoName),
            ("job main a\nend", NoName), ("job main\nput m 1\nend", NoName), ("most m\njob main\nget x m\nend", NoKind),
            ("most m\njob main\nput m 1 2\nend", NoKind), ("most m\njob main\ntell item m 1\nend", NoKind),
        ):
            self.assertIs(refusal(read, text), expected)
            self.assertIs(refusal(answered, sheet_of(text)), expected, text)

    def test_150_lines_behind_the_head_are_taken(self):
        text = "\n".join(["job main"] + ["tell 1"] * 148 + ["end"])
        self.assertEqual(answered(sheet_of(text)), "thread main done 150 148" + " 1" * 148)

    def test_with_nothing_behind_the_second_line(self):
        for sheet in ("steps 5\npicks", "steps 5\npicks\n", "steps 5\npicks 1 2", "steps 5\npicks\n\n"):
            self.assertIs(refusal(answered, sheet), NoLine)

    def test_the_head_first(self):
        self.assertIs(refusal(answered, "steps 401\npicks\n"), NoHead)
        self.assertIs(refusal(answered, "steps 5"), NoHead)
        self.assertIs(refusal(answered, ""), NoHead)


if __name__ == "__main__":
    unittest.main()
