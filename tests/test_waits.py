import unittest

from surejoin.kinds import kind_of
from tests.small import KINDS, TOP, WAITS, long_state, small_states

NUMBERS = (0, 1, 2, 3, 4, 7, 8, 999999998, TOP)


class TestPassing(unittest.TestCase):
    def check(self, word, wait, rows):
        kind = kind_of(word)
        for state, n, passes, given in rows:
            with self.subTest(word=word, wait=wait, state=state, n=n):
                self.assertIs(kind.passes(state, wait, n), passes)
                told = kind.gives(state, wait, n)
                self.assertEqual(told, given)
                self.assertIs(type(told), type(given))

    def test_least(self):
        self.check("most", "least", [
            ([], 0, False, None), ([], TOP, False, None),
            ([0], 0, True, None), ([0], 1, False, None),
            ([5], 0, True, None), ([5], 4, True, None), ([5], 5, True, None), ([5], 6, False, None),
            ([5], TOP, False, None), ([TOP], TOP, True, None), ([TOP], 999999998, True, None),
            ([999999998], TOP, False, None),
        ])

    def test_has_of_sets(self):
        self.check("set", "has", [
            ([], 0, False, None), ([0], 0, True, None), ([0], 1, False, None), ([1], 0, False, None),
            ([2, 5], 1, False, None), ([2, 5], 2, True, None), ([2, 5], 3, False, None), ([2, 5], 4, False, None),
            ([2, 5], 5, True, None), ([2, 5], 6, False, None), ([2, 5], TOP, False, None), ([2, TOP], TOP, True, None),
            ([999999998], TOP, False, None),
        ])

    def test_has_of_maps_asks_for_keys(self):
        self.check("map", "has", [
            ([], 0, False, None), ([(0, 5)], 0, True, None), ([(0, 0)], 0, True, None), ([(0, 5)], 5, False, None),
            ([(2, 7), (5, 0)], 2, True, None), ([(2, 7), (5, 0)], 5, True, None), ([(2, 7), (5, 0)], 0, False, None),
            ([(2, 7), (5, 0)], 4, False, None), ([(2, 7), (5, 0)], 6, False, None), ([(2, 7), (5, 0)], 7, False, None),
            ([(2, 7), (TOP, 1)], TOP, True, None), ([(2, 7)], TOP, False, None),
        ])

    def test_many_of_each_kind(self):
        for word in KINDS:
            self.check(word, "many", [([], 0, True, None), ([], 1, False, None), ([], TOP, False, None)])
            for size in ((1,) if word in ("most", "once") else (1, 2, 3, 1000)):
                state = long_state(word, size)
                self.check(word, "many", [
                    (state, 0, True, None), (state, size - 1, True, None), (state, size, True, None),
                    (state, size + 1, False, None), (state, TOP, False, None),
                ])

    def test_many_counts_alike_numbers_of_a_row(self):
        self.check("row", "many", [([0, 0, 0], 3, True, None), ([0, 0, 0], 4, False, None)])

    def test_held(self):
        for n in (0, 1, 5, TOP):
            self.check("once", "held", [([], n, False, None), ([0], n, True, 0), ([5], n, True, 5), ([TOP], n, True, TOP)])

    def test_item_of_rows(self):
        self.check("row", "item", [
            ([], 0, False, None), ([0], 0, True, 0), ([0], 1, False, None), ([7, 8, 7], 0, True, 7),
            ([7, 8, 7], 1, True, 8), ([7, 8, 7], 2, True, 7), ([7, 8, 7], 3, False, None), ([7, 8, 7], 4, False, None),
            ([7, 8, 7], TOP, False, None), ([TOP, 0], 0, True, TOP), ([TOP, 0], 1, True, 0),
        ])

    def test_item_of_a_place_below_0_is_none(self):
        self.check("row", "item", [([7, 8], -1, False, None), ([7, 8], -2, False, None)])

    def test_item_of_maps(self):
        self.check("map", "item", [
            ([], 0, False, None), ([(0, 0)], 0, True, 0), ([(0, 5)], 5, False, None), ([(5, 0)], 0, False, None),
            ([(2, 7), (5, 0)], 1, False, None), ([(2, 7), (5, 0)], 2, True, 7), ([(2, 7), (5, 0)], 3, False, None),
            ([(2, 7), (5, 0)], 5, True, 0), ([(2, 7), (5, 0)], 6, False, None), ([(2, 7), (TOP, TOP)], TOP, True, TOP),
        ])

    def test_long_ones(self):
        self.check("set", "has", [(long_state("set", 1000), 2997, True, None), (long_state("set", 1000), 2998, False, None)])
        self.check("row", "item", [(long_state("row", 1000), 999, True, 3), (long_state("row", 1000), 1000, False, None)])
        self.check("map", "item", [(long_state("map", 1000), 2997, True, 999), (long_state("map", 1000), 2998, False, None)])

    def test_what_passes_passes_with_all_that_it_is_under_and_gives_the_same(self):
        for word in KINDS:
            kind = kind_of(word)
            for one in small_states(word):
                above = [other for other in small_states(word) if kind.under(one, other)]
                for wait in WAITS[word]:
                    for n in NUMBERS:
                        if kind.passes(one, wait, n):
                            for other in above:
                                self.assertIs(kind.passes(other, wait, n), True, (word, one, other, wait, n))
                                self.assertEqual(kind.gives(other, wait, n), kind.gives(one, wait, n))

    def test_a_number_is_given_just_where_held_or_item_passes(self):
        for word in KINDS:
            kind = kind_of(word)
            for state in small_states(word):
                for wait in WAITS[word]:
                    for n in NUMBERS:
                        passes = kind.passes(state, wait, n)
                        given = kind.gives(state, wait, n)
                        self.assertIs(type(passes), bool)
                        if passes and wait in ("held", "item"):
                            self.assertIs(type(given), int)
                        else:
                            self.assertIsNone(given)


if __name__ == "__main__":
    unittest.main()
