import unittest

from surejoin.sums import brought, worked

TOP = 999999999
SIXTY = 123456789012345678901234567890123456789012345678901234567890
NINES = 10 ** 60 - 1


class TestBrought(unittest.TestCase):
    def check(self, n, number):
        told = brought(n)
        self.assertIs(type(told), int)
        self.assertEqual(told, number)

    def test_numbers_stay(self):
        for n in (0, 1, 5, 400, 123456789, TOP - 1, TOP):
            self.check(n, n)

    def test_beyond_the_range(self):
        self.check(1000000000, 0)
        self.check(1000000001, 1)
        self.check(1999999999, TOP)
        self.check(2000000000, 0)
        self.check(TOP * TOP, 1)

    def test_below_0(self):
        self.check(-1, TOP)
        self.check(-2, 999999998)
        self.check(-999999999, 1)
        self.check(-1000000000, 0)
        self.check(-1000000001, TOP)
        self.check(-3000000005, 999999995)

    def test_sixty_figures(self):
        self.check(SIXTY, 234567890)
        self.check(-SIXTY, 765432110)
        self.check(NINES, TOP)
        self.check(-NINES, 1)
        self.check(10 ** 59, 0)
        self.check(-(10 ** 59), 0)
        self.check(10 ** 59 + 7, 7)
        self.check(-(10 ** 59) - 7, 999999993)


class TestWorked(unittest.TestCase):
    def check(self, word, rows):
        for one, other, number in rows:
            with self.subTest(word=word, one=one, other=other):
                told = worked(word, one, other)
                if number is not None:
                    self.assertIs(type(told), int)
                self.assertEqual(told, number)

    def test_sum(self):
        self.check("+", [
            (0, 0, 0), (2, 3, 5), (0, TOP, TOP), (TOP, 0, TOP), (TOP, 1, 0), (1, TOP, 0),
            (TOP, TOP, 999999998), (500000000, 500000000, 0), (500000000, 499999999, TOP),
        ])

    def test_difference(self):
        self.check("-", [
            (0, 0, 0), (5, 3, 2), (3, 5, 999999998), (0, 1, TOP), (0, TOP, 1), (TOP, 0, TOP),
            (TOP, TOP, 0), (1, TOP, 2), (TOP, 1, 999999998),
        ])

    def test_product(self):
        self.check("*", [
            (0, 0, 0), (6, 7, 42), (0, TOP, 0), (TOP, 0, 0), (TOP, 1, TOP), (1, TOP, TOP),
            (TOP, TOP, 1), (TOP, 2, 999999998), (100000, 10000, 0), (123456789, 987654321, 112635269),
        ])

    def test_div(self):
        self.check("div", [
            (7, 2, 3), (6, 2, 3), (1, 2, 0), (0, 5, 0), (TOP, 1, TOP), (TOP, TOP, 1), (1, TOP, 0),
            (TOP, 2, 499999999), (999999998, TOP, 0), (0, TOP, 0), (0, 1, 0),
        ])

    def test_rem(self):
        self.check("rem", [
            (7, 2, 1), (6, 2, 0), (1, 2, 1), (0, 5, 0), (TOP, 1, 0), (TOP, TOP, 0), (1, TOP, 1),
            (TOP, 2, 1), (999999998, TOP, 999999998), (TOP, 1000, 999), (0, 1, 0),
        ])

    def test_by_0_there_is_no_number(self):
        for word in ("div", "rem"):
            for one in (0, 1, 7, TOP):
                self.assertIsNone(worked(word, one, 0))

    def test_0_behind_the_other_words_tells_a_number(self):
        for word, number in (("+", 7), ("-", 7), ("*", 0), ("<", 0), ("=", 0)):
            self.check(word, [(7, 0, number)])

    def test_less(self):
        self.check("<", [
            (0, 0, 0), (0, 1, 1), (1, 0, 0), (5, 5, 0), (4, 5, 1), (5, 4, 0),
            (0, TOP, 1), (TOP, 0, 0), (TOP, TOP, 0), (999999998, TOP, 1),
        ])

    def test_equal(self):
        self.check("=", [
            (0, 0, 1), (0, 1, 0), (1, 0, 0), (5, 5, 1), (4, 5, 0),
            (0, TOP, 0), (TOP, 0, 0), (TOP, TOP, 1), (999999998, TOP, 0),
            (123456789, int("123456789"), 1),
        ])

    def test_div_and_rem_lead_back(self):
        for one in (0, 1, 2, 99, 1000, TOP):
            for other in (1, 2, 3, 10, 998, TOP):
                back = worked("+", worked("*", worked("div", one, other), other), worked("rem", one, other))
                self.assertEqual(back, one)
                self.assertEqual(worked("<", worked("rem", one, other), other), 1)


if __name__ == "__main__":
    unittest.main()
