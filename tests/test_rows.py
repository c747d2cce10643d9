import unittest
from copy import deepcopy

from surejoin.rows import made
from surejoin.texts import read
from tests.small import drawn_text, plain_parts

ONE = ("num", 1)
X = ("name", "x")


def job_of(body):
    """The job main of a program: its own lines begin in line 2."""
    return read("\n".join(["job main"] + body + ["end"]))[1][0]


def boxed_job(line):
    """The job main of a program with five boxes: its own lines begin in line 7."""
    program = read(f"once o\nrow r\nmap p\nmost m\nset s\njob main\n{line}\nend\njob f a b c d\nend\njob g\nend")
    return program[1][0]


def marked_rows(body, rows, marks):
    """Another way: first with marks for where splits and jumps lead, which are filled in at the end."""
    for statement in body:
        if statement[0] not in ("if", "while"):
            rows.append(statement)
            continue
        line, E = statement[1:3]
        far, near = f"far {line}", f"near {line}"
        marks[near] = len(rows)
        rows.append(("split", line, E, far))
        marked_rows(statement[3], rows, marks)
        if statement[0] == "while":
            rows.append(("jump", line, near))
            marks[far] = len(rows)
        elif statement[4] is None:
            marks[far] = len(rows)
        else:
            rows.append(("jump", line, f"behind {line}"))
            marks[far] = len(rows)
            marked_rows(statement[4], rows, marks)
            marks[f"behind {line}"] = len(rows)


def rows_by_marks(job):
    rows, marks = [], {}
    marked_rows(job[2], rows, marks)
    return [row[:-1] + (marks[row[-1]],) if row[0] in ("split", "jump") else row for row in rows]


class TestRows(unittest.TestCase):
    def check(self, job, expected):
        before = deepcopy(job)
        told = made(job)
        self.assertEqual(told, expected)
        self.assertEqual(plain_parts(told), plain_parts(expected))
        self.assertEqual(job, before)

    def test_statements_without_lines_in_them_stand_as_they_are(self):
        for line in (
            "let x 1", "put m x", "put o 1", "put s 1", "put r 1", "put r 1 2", "put r 1 2 3", "put r 1 1 1 1",
            "put p 1 x", "wait m least 1", "wait s has x", "wait r many + 1 x", "get x o", "get x r 1", "get x p x",
            "tell x", "begin g 7", "begin f 1 2 3 4 x", "stop",
        ):
            job = boxed_job(line)
            self.check(job, [job[2][0]])
        self.check(boxed_job("put r 1 x"), [("put", 7, "r", [ONE, X])])
        self.check(boxed_job("begin f x 1 1 x 1"), [("begin", 7, "f", X, [ONE, ONE, X, ONE])])
        self.check(boxed_job("get x o"), [("get", 7, "x", "o", None)])
        self.check(boxed_job("stop"), [("stop", 7)])

    def test_an_empty_job(self):
        self.check(job_of([]), [])
        self.check(read("job main\nend\njob f a b\nend")[1][1], [])

    def test_an_if_without_else(self):
        self.check(job_of(["if x", "tell 1", "end"]), [("split", 2, X, 2), ("tell", 3, ONE)])
        self.check(job_of(["if x", "end"]), [("split", 2, X, 1)])
        self.check(job_of(["if x", "tell 1", "end", "stop"]), [("split", 2, X, 2), ("tell", 3, ONE), ("stop", 5)])
        self.check(job_of(["stop", "if x", "tell 1", "tell x", "end"]), [
            ("stop", 2), ("split", 3, X, 4), ("tell", 4, ONE), ("tell", 5, X),
        ])

    def test_an_if_with_else(self):
        self.check(job_of(["if x", "tell 1", "else", "tell x", "end"]), [
            ("split", 2, X, 3), ("tell", 3, ONE), ("jump", 2, 4), ("tell", 5, X),
        ])
        self.check(job_of(["if x", "tell 1", "else", "end"]), [("split", 2, X, 3), ("tell", 3, ONE), ("jump", 2, 3)])
        self.check(job_of(["if x", "else", "end"]), [("split", 2, X, 2), ("jump", 2, 2)])
        self.check(job_of(["if x", "else", "tell 1", "end"]), [("split", 2, X, 2), ("jump", 2, 3), ("tell", 4, ONE)])
        self.check(job_of(["stop", "if x", "else", "tell 1", "tell x", "end", "stop"]), [
            ("stop", 2), ("split", 3, X, 3), ("jump", 3, 5), ("tell", 5, ONE), ("tell", 6, X), ("stop", 8),
        ])

    def test_a_while(self):
        self.check(job_of(["while x", "tell 1", "end"]), [("split", 2, X, 3), ("tell", 3, ONE), ("jump", 2, 0)])
        self.check(job_of(["while x", "end"]), [("split", 2, X, 2), ("jump", 2, 0)])
        self.check(job_of(["stop", "while x", "end", "stop"]), [
            ("stop", 2), ("split", 3, X, 3), ("jump", 3, 1), ("stop", 5),
        ])

    def test_one_straight_behind_the_other(self):
        self.check(job_of(["if x", "else", "end", "while 1", "end", "if 1", "end", "if x", "tell x", "else", "end"]), [
            ("split", 2, X, 2), ("jump", 2, 2), ("split", 5, ONE, 4), ("jump", 5, 2), ("split", 7, ONE, 5),
            ("split", 9, X, 8), ("tell", 10, X), ("jump", 9, 8),
        ])

    def test_one_within_another(self):
        self.check(job_of(["while x", "if 1", "stop", "else", "tell 1", "end", "end", "tell x"]), [
            ("split", 2, X, 6), ("split", 3, ONE, 4), ("stop", 4), ("jump", 3, 5), ("tell", 6, ONE), ("jump", 2, 0),
            ("tell", 9, X),
        ])
        self.check(job_of(["if x", "while 1", "end", "else", "while x", "stop", "end", "end"]), [
            ("split", 2, X, 4), ("split", 3, ONE, 3), ("jump", 3, 1), ("jump", 2, 7), ("split", 6, X, 7), ("stop", 7),
            ("jump", 6, 4),
        ])
        self.check(job_of(["if x", "if 1", "end", "end"]), [("split", 2, X, 2), ("split", 3, ONE, 2)])

    def test_four_deep(self):
        body = """while x
if 1
while 1
if x
tell 1
else
tell x
end
end
else
stop
end
end"""
        self.check(job_of(body.split("\n")), [
            ("split", 2, X, 11), ("split", 3, ONE, 9), ("split", 4, ONE, 8), ("split", 5, X, 6), ("tell", 6, ONE),
            ("jump", 5, 7), ("tell", 8, X), ("jump", 4, 2), ("jump", 3, 10), ("stop", 12), ("jump", 2, 0),
        ])

    def test_all_nests_of_small_size(self):
        heads = (["if x"], ["while x"])

        def bodies(room):
            """All bodies of ifs and whiles within one another, so deep at most."""
            yield []
            yield ["tell 1"]
            if room:
                for inside in bodies(room - 1):
                    for head in heads:
                        yield head + inside + ["end"]
                    for other in (inside, [], ["tell x"]):
                        yield ["if x"] + inside + ["else"] + other + ["end"]
                        yield ["tell x", "if x"] + other + ["else"] + inside + ["end", "stop"]

        count = 0
        for body in bodies(4):
            job = job_of(body)
            self.check(job, rows_by_marks(job))
            count += 1
        self.assertGreater(count, 1000)

    def test_drawn_jobs(self):
        for seed in range(150):
            for job in read(drawn_text(seed))[1]:
                self.check(job, rows_by_marks(job))

    def test_the_second_part_is_the_line(self):
        program = read(drawn_text(3))
        for job in program[1]:
            for row in made(job):
                self.assertTrue(job[3] < row[1] < job[4])

    def test_what_is_told_is_new(self):
        job = boxed_job("while x\nput r 1 2\nbegin f 1 2 3 4 5\nif x\nput p 1 x\nelse\nput m 1\nend\nend")
        before = deepcopy(job)
        kept = deepcopy(made(job))
        told = made(job)
        for row in told:
            for part in row:
                if isinstance(part, list):
                    part.append("changed")
                    part[0] = "changed"
        self.assertEqual(job, before)
        self.assertEqual(made(job), kept)
        told.clear()
        self.assertEqual(made(job), kept)

    def test_what_was_told_does_not_change_with_the_job(self):
        job = boxed_job("put r 1 2\nbegin f 1 2 3 4 5")
        told = made(job)
        kept = deepcopy(told)
        job[2][0][3].append("changed")
        job[2][1][4].clear()
        job[2].clear()
        self.assertEqual(told, kept)
        self.assertEqual(made(job), [])


if __name__ == "__main__":
    unittest.main()
