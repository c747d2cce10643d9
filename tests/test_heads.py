import unittest

from surejoin.desk import answered
from surejoin.errors import JoinError, NoHead
from surejoin.heads import parted
from tests.small import plain_parts, refusal

TEXT = "job main\nend"
GOOD_STEPS = ("0", "1", "9", "10", "99", "399", "400")
BAD_STEPS = (
    "steps", "steps ", "steps 401", "steps 1000", "steps 999999999", "steps 007", "steps 00", "steps 01", "steps 0400",
    "steps 1000000000", "steps 0000000001", "steps 1 2", "steps 400 0", "steps  4", " steps 4", "steps 4 ", "steps\t4",
    "steps x", "steps 4x", "steps -1", "steps +4", "steps 1.5", "steps four", "step 4", "Steps 4", "STEPS 4", "stepss 4",
    "picks 4", "picks", "4", "steps4", "steps:4", "", " ", "main", "job main", "steps 1_0", "steps 0x1", "steps 4\r",
)
BAD_PICKS = (
    "picks ", "picks  1", " picks 1", "picks 1 ", "picks 1  2", "picks 01", "picks 00", "picks 1 02", "picks 1234567890",
    "picks 0000000000", "picks x", "picks 1 x", "picks -1", "picks 1.5", "picks 1,2", "pick 1", "Picks 1", "PICKS", "pickss",
    "steps 4", "steps", "1 2", "picks1", "", " ", "job main", "picks 1 2 x", "picks " + " ".join(["1"] * 33),
    "picks " + " ".join(["0"] * 100), "picks 1\t2", "picks 1_0",
)


class TestTaken(unittest.TestCase):
    def check(self, sheet, expected):
        told = parted(sheet)
        self.assertEqual(told, expected)
        self.assertEqual(plain_parts(told), plain_parts(expected))

    def test_steps(self):
        for number in GOOD_STEPS:
            self.check(f"steps {number}\npicks\n{TEXT}", (int(number), [], TEXT))

    def test_picks(self):
        self.check(f"steps 5\npicks\n{TEXT}", (5, [], TEXT))
        self.check(f"steps 5\npicks 0\n{TEXT}", (5, [0], TEXT))
        self.check(f"steps 5\npicks 7 7 0 3\n{TEXT}", (5, [7, 7, 0, 3], TEXT))
        self.check(f"steps 5\npicks 999999999 123456789\n{TEXT}", (5, [999999999, 123456789], TEXT))
        for count in (1, 2, 31, 32):
            numbers = list(range(count))
            self.check("steps 5\npicks " + " ".join(map(str, numbers)) + f"\n{TEXT}", (5, numbers, TEXT))

    def test_what_stands_behind(self):
        self.check("steps 5\npicks", (5, [], ""))
        self.check("steps 5\npicks 1", (5, [1], ""))
        self.check("steps 5\npicks\n", (5, [], ""))
        self.check("steps 5\npicks\n\n", (5, [], "\n"))
        self.check("steps 5\npicks\n\n\n", (5, [], "\n\n"))
        self.check("steps 5\npicks\na\nb\n\nc", (5, [], "a\nb\n\nc"))
        self.check("steps 5\npicks\n\njob main\nend\n", (5, [], "\njob main\nend\n"))
        self.check("steps 5\npicks\n  x ~ \n", (5, [], "  x ~ \n"))
        self.check("steps 5\npicks\nsteps 6\npicks 1", (5, [], "steps 6\npicks 1"))

    def test_a_told_list_is_new(self):
        sheet = "steps 5\npicks 1 2\n" + TEXT
        parted(sheet)[1].append(3)
        parted("steps 5\npicks\n")[1].append(3)
        self.check(sheet, (5, [1, 2], TEXT))
        self.check("steps 5\npicks\n", (5, [], ""))


class TestRefused(unittest.TestCase):
    def check(self, sheet):
        for called in (parted, answered):
            self.assertIs(refusal(called, sheet), NoHead, sheet)
        with self.assertRaises(JoinError):
            parted(sheet)
        with self.assertRaises(ValueError):
            parted(sheet)

    def test_steps(self):
        for line in BAD_STEPS:
            self.check(f"{line}\npicks\n{TEXT}")
            self.check(f"{line}\npicks 1 2\n{TEXT}")
            self.check(f"{line}\npicks")
            self.check(line)

    def test_picks(self):
        for line in BAD_PICKS:
            self.check(f"steps 5\n{line}\n{TEXT}")
            self.check(f"steps 5\n{line}")

    def test_lines_that_lack_or_are_exchanged(self):
        for sheet in (
            "", "\n", "\n\n", "steps 5", "steps 5\n", "steps 5\n\n", "picks", "picks 1 2", "picks\nsteps 5",
            f"picks 1\nsteps 5\n{TEXT}", f"steps 5\n{TEXT}", f"picks\n{TEXT}", TEXT, f"\nsteps 5\npicks\n{TEXT}",
            f"steps 5\n\npicks\n{TEXT}", f"steps 5 picks\n{TEXT}", f"steps 5\nsteps 5\npicks\n{TEXT}",
        ):
            self.check(sheet)

    def test_ahead_of_all_that_the_text_may_be_refused_with(self):
        for text in (
            "", "nothing", "\n" * 200, "job main", "job main\nend\njob main\nend", "job main\nput x 1\nend",
            "most m\njob main\nput m 1 2\nend", "most m\njob main\ntell size m\nend",
        ):
            self.check(f"steps 401\npicks\n{text}")
            self.check(f"steps 5\npicks x\n{text}")


if __name__ == "__main__":
    unittest.main()
