import unittest

from surejoin.kinds import kind_of
from tests.small import KINDS, LOOKS, TOP, long_state, small_states


class TestSeen(unittest.TestCase):
    def check(self, word, look, rows):
        kind = kind_of(word)
        for state, n, number in rows:
            with self.subTest(word=word, look=look, state=state, n=n):
                told = kind.seen(state, look, n)
                self.assertIs(type(told), int)
                self.assertEqual(told, number)

    def test_nothing_in_it(self):
        for word in KINDS:
            for look in LOOKS[word]:
                self.check(word, look, [([], n, 0) for n in (0, 1, TOP)])

    def test_size(self):
        for word in KINDS:
            for size in ((1,) if word in ("most", "once") else (1, 2, 3, 1000)):
                self.check(word, "size", [(long_state(word, size), n, size) for n in (0, 1, 5, TOP)])
        self.check("row", "size", [([0, 0, 0], 0, 3)])

    def test_held(self):
        for word in ("most", "once"):
            for n in (0, 1, 5, TOP):
                self.check(word, "held", [([0], n, 0), ([1], n, 1), ([5], n, 5), ([TOP], n, TOP)])

    def test_size_and_held_do_not_look_at_n(self):
        for word in KINDS:
            self.check(word, "size", [(long_state(word, 1), None, 1)])
        for word in ("most", "once"):
            self.check(word, "held", [([7], None, 7), ([], None, 0)])

    def test_has_of_sets(self):
        self.check("set", "has", [
            ([0], 0, 1), ([0], 1, 0), ([2, 5], 0, 0), ([2, 5], 1, 0), ([2, 5], 2, 1), ([2, 5], 4, 0), ([2, 5], 5, 1),
            ([2, 5], 6, 0), ([2, TOP], TOP, 1), ([2, 999999998], TOP, 0),
        ])

    def test_has_of_maps_asks_for_keys(self):
        self.check("map", "has", [
            ([(0, 0)], 0, 1), ([(0, 5)], 5, 0), ([(2, 7), (5, 0)], 2, 1), ([(2, 7), (5, 0)], 5, 1),
            ([(2, 7), (5, 0)], 7, 0), ([(2, 7), (5, 0)], 0, 0), ([(TOP, 3)], TOP, 1), ([(TOP, 3)], 3, 0),
        ])

    def test_item_of_rows(self):
        self.check("row", "item", [
            ([7, 8, 7], 0, 7), ([7, 8, 7], 1, 8), ([7, 8, 7], 2, 7), ([7, 8, 7], 3, 0), ([7, 8, 7], TOP, 0),
            ([0, TOP], 0, 0), ([0, TOP], 1, TOP), ([7, 8], -1, 0),
        ])

    def test_item_of_maps(self):
        self.check("map", "item", [
            ([(0, 5)], 0, 5), ([(0, 5)], 5, 0), ([(2, 7), (5, 1)], 2, 7), ([(2, 7), (5, 1)], 5, 1),
            ([(2, 7), (5, 1)], 1, 0), ([(2, 7), (5, 1)], 7, 0), ([(TOP, TOP)], TOP, TOP), ([(3, 0)], 3, 0),
        ])

    def test_long_ones(self):
        self.check("set", "has", [(long_state("set", 1000), 2997, 1), (long_state("set", 1000), 2998, 0)])
        self.check("row", "item", [(long_state("row", 1000), 999, 3), (long_state("row", 1000), 1000, 0)])
        self.check("map", "item", [(long_state("map", 1000), 2997, 999), (long_state("map", 1000), 2998, 0)])

    def test_no_truth_is_told(self):
        for word in KINDS:
            for state in small_states(word):
                for look in LOOKS[word]:
                    for n in (0, 1, 2, 3, TOP):
                        self.assertIs(type(kind_of(word).seen(state, look, n)), int)


if __name__ == "__main__":
    unittest.main()
