import unittest
from itertools import permutations

from surejoin.kinds import kind_of
from tests.small import KINDS, TOP, long_state, small_states


def told_under(word, one, other):
    """What stands under what, straight from the sense of each kind and without any join."""
    if word == "most":
        return one == [] or (other != [] and one[0] <= other[0])
    if word == "once":
        return one == [] or one == other
    if word == "row":
        return len(one) <= len(other) and all(one[n] == other[n] for n in range(len(one)))
    return all(thing in other for thing in one)


def least_above(word, states, one, other):
    above = [state for state in states if told_under(word, one, state) and told_under(word, other, state)]
    least = [state for state in above if all(told_under(word, state, upper) for upper in above)]
    return least[0] if above else None


def joined_in_turn(kind, states):
    whole = []
    for state in states:
        whole = kind.joined(whole, state)
        if whole is None:
            return None
    return whole


class TestJoins(unittest.TestCase):
    def check(self, word, rows):
        kind = kind_of(word)
        for one, other, whole in rows:
            with self.subTest(word=word, one=one, other=other):
                self.assertEqual(kind.joined(one, other), whole)
                self.assertEqual(kind.joined(other, one), whole)
                self.assertIs(kind.under(one, other), whole == other)
                self.assertIs(kind.under(other, one), whole == one)
                if whole is not None:
                    self.assertIs(type(kind.joined(one, other)), list)
                    self.assertIs(kind.is_state(kind.joined(one, other)), True)

    def test_most(self):
        self.check("most", [
            ([], [], []), ([], [0], [0]), ([0], [0], [0]), ([0], [1], [1]), ([9], [10], [10]), ([TOP], [3], [TOP]),
            ([TOP], [TOP], [TOP]), ([999999998], [TOP], [TOP]),
        ])

    def test_set(self):
        self.check("set", [
            ([], [], []), ([], [0, 5], [0, 5]), ([1], [1], [1]), ([1], [2], [1, 2]), ([1, 2], [1, 2, 3], [1, 2, 3]),
            ([0, 9, 10], [3, 9, TOP], [0, 3, 9, 10, TOP]), ([1, 3, 5], [2, 4, 6], [1, 2, 3, 4, 5, 6]),
            ([5], [1, 9], [1, 5, 9]), ([9], [10], [9, 10]),
        ])

    def test_once(self):
        self.check("once", [
            ([], [], []), ([], [0], [0]), ([], [TOP], [TOP]), ([0], [0], [0]), ([7], [7], [7]),
            ([0], [1], None), ([7], [8], None), ([0], [TOP], None),
        ])

    def test_row(self):
        self.check("row", [
            ([], [], []), ([], [0], [0]), ([1, 2], [1, 2], [1, 2]), ([1, 2], [1, 2, 0], [1, 2, 0]),
            ([0], [0, 0], [0, 0]), ([1], [1, 1, 1], [1, 1, 1]),
            ([1], [2], None), ([1, 2], [1, 3], None), ([1, 2], [2], None), ([2], [1, 2], None),
            ([1, 2], [2, 1], None), ([1, 2, 3], [1, 3], None), ([0, 0], [0, 1, 0], None),
        ])

    def test_map(self):
        self.check("map", [
            ([], [], []), ([], [(0, 0)], [(0, 0)]), ([(1, 2)], [(1, 2)], [(1, 2)]), ([(1, 2)], [(1, 3)], None),
            ([(1, 0)], [(1, 1)], None), ([(0, 1)], [(1, 0)], [(0, 1), (1, 0)]), ([(5, 1)], [(3, 9)], [(3, 9), (5, 1)]),
            ([(1, 2)], [(1, 2), (3, 4)], [(1, 2), (3, 4)]),
            ([(1, 2), (3, 4)], [(0, 7), (3, 4), (TOP, TOP)], [(0, 7), (1, 2), (3, 4), (TOP, TOP)]),
            ([(1, 2), (3, 4)], [(0, 7), (3, 5), (TOP, TOP)], None),
            ([(1, 2), (3, 4)], [(1, 2), (3, 0)], None), ([(9, 1)], [(10, 1)], [(9, 1), (10, 1)]),
        ])

    def test_all_small_states_have_the_least_one_above_both(self):
        for word in KINDS:
            states = small_states(word)
            self.check(word, [(one, other, least_above(word, states, one, other)) for one in states for other in states])

    def test_under_is_what_the_kind_says(self):
        for word in KINDS:
            for one in small_states(word):
                for other in small_states(word):
                    self.assertIs(kind_of(word).under(one, other), told_under(word, one, other), (word, one, other))

    def test_nothing_is_under_each_and_each_under_itself(self):
        for word in KINDS:
            kind = kind_of(word)
            for state in small_states(word):
                self.assertIs(kind.under([], state), True)
                self.assertIs(kind.under(state, state), True)
                self.assertIs(kind.under(state, []), state == [])

    def test_three_states_in_each_order(self):
        for word in KINDS:
            kind = kind_of(word)
            states = small_states(word)[:14]
            for one in states:
                for two in states:
                    for three in states:
                        wholes = [joined_in_turn(kind, order) for order in permutations((one, two, three))]
                        self.assertEqual(wholes, [wholes[0]] * 6, (word, one, two, three))

    def test_three_states_named(self):
        for word, states, whole in (
            ("most", ([3], [9], [4]), [9]),
            ("set", ([3], [1, 9], [2, 3]), [1, 2, 3, 9]),
            ("once", ([4], [], [4]), [4]),
            ("once", ([4], [], [5]), None),
            ("row", ([1], [1, 2, 3], [1, 2]), [1, 2, 3]),
            ("row", ([1], [1, 2, 3], [1, 3]), None),
            ("map", ([(2, 0)], [(1, 1)], [(0, 2), (2, 0)]), [(0, 2), (1, 1), (2, 0)]),
            ("map", ([(2, 0)], [(1, 1)], [(0, 2), (2, 1)]), None),
        ):
            for order in permutations(states):
                self.assertEqual(joined_in_turn(kind_of(word), order), whole, (word, order))


class TestLongJoins(unittest.TestCase):
    def test_with_nothing_with_itself_and_with_a_beginning(self):
        for word in ("set", "row", "map"):
            kind = kind_of(word)
            long = long_state(word, 1000)
            for part in ([], long[:1], long[:500], long[:999], long):
                self.assertEqual(kind.joined(part, long), long)
                self.assertEqual(kind.joined(long, part), long)
                self.assertIs(kind.under(part, long), True)
                self.assertIs(kind.under(long, part), part == long)

    def test_sets_and_maps_in_pieces(self):
        for word in ("set", "map"):
            kind = kind_of(word)
            long = long_state(word, 1000)
            for one, other in ((long[::2], long[1::2]), (long[500:], long[:500]), (long[:700], long[300:])):
                self.assertEqual(kind.joined(one, other), long)
                self.assertEqual(kind.joined(other, one), long)
                self.assertIs(kind.under(one, other), False)

    def test_two_long_ones_without_a_common_thing(self):
        whole = kind_of("set").joined([2 * n for n in range(1000)], [2 * n + 1 for n in range(1000)])
        self.assertEqual(whole, list(range(2000)))

    def test_the_last_thing_unlike(self):
        row = long_state("row", 1000)
        self.assertIsNone(kind_of("row").joined(row, row[:-1] + [4]))
        self.assertIsNone(kind_of("row").joined(row[:-1] + [4], row))
        self.assertIsNone(kind_of("row").joined(row[:998] + [4], row))
        pairs = long_state("map", 1000)
        self.assertIsNone(kind_of("map").joined(pairs, pairs[:-1] + [(2997, 5)]))
        self.assertIsNone(kind_of("map").joined([(2997, 5)], pairs))
        self.assertIs(kind_of("map").under([(2997, 5)], pairs), False)


if __name__ == "__main__":
    unittest.main()
