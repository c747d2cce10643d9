import unittest

from surejoin.kinds import Kind, Map, Most, Once, Row, Set, kind_of
from tests.small import KINDS, TOP, long_state, small_states

CLASSES = {"most": Most, "set": Set, "once": Once, "row": Row, "map": Map}
NO_NUMBERS = (True, False, None, "", "1", "a", -1, -(10 ** 59), 1000000000, 10 ** 59, [], [1], (), (1,), (1, 2),
              (1, 2, 3), {}, {1: 2}, {1}, 1.0, 0.0, 1j, b"1", object(), int)
NO_PAIRS = (True, False, None, "", "ab", 0, 1, TOP, -1, 1000000000, [], [1], [1, 2], [1, 2, 3], (), (1,), (1, 2, 3),
            ((1, 2),), {}, {1: 2, 3: 4}, {1, 2}, 1.0, b"ab", object(), tuple)
NO_LISTS = (True, False, None, "", "1", "12", 0, 1, -1, TOP, (), (1,), (1, 2), ((1, 2),), ((1, 2), (3, 4)),
            {}, {1: 2}, {1: 2, 3: 4}, set(), {1}, frozenset(), frozenset({1}), range(0), range(3), iter([]), iter([1]),
            1.0, b"", b"1", object(), list, Kind)


class TestKinds(unittest.TestCase):
    def test_kind_of_gives_an_object_of_its_class_and_of_no_other(self):
        for word in KINDS:
            kind = kind_of(word)
            self.assertIsInstance(kind, Kind)
            for other in KINDS:
                self.assertEqual(isinstance(kind, CLASSES[other]), word == other)

    def test_the_five_stand_straight_under_kind(self):
        for word in KINDS:
            self.assertEqual(CLASSES[word].__bases__, (Kind,))
        self.assertIsInstance(Kind(), Kind)

    def test_called_tells_the_word(self):
        for word in KINDS:
            self.assertEqual(kind_of(word).called(), word)
            self.assertEqual(CLASSES[word]().called(), word)

    def test_objects_of_the_classes_do_as_those_of_kind_of(self):
        for word in KINDS:
            made = CLASSES[word]()
            for one in small_states(word):
                self.assertIs(made.is_state(one), True)
                for other in small_states(word):
                    self.assertEqual(made.joined(one, other), kind_of(word).joined(one, other))


class TestStates(unittest.TestCase):
    def check(self, word, things, told):
        kind = kind_of(word)
        for thing in things:
            with self.subTest(word=word, thing=repr(thing)[:80]):
                self.assertIs(kind.is_state(thing), told)

    def test_small_states(self):
        for word in KINDS:
            self.check(word, small_states(word), True)

    def test_nothing_in_it(self):
        for word in KINDS:
            self.check(word, [[]], True)

    def test_most_and_once(self):
        for word in ("most", "once"):
            self.check(word, [[], [0], [1], [TOP]], True)
            self.check(word, [[0, 0], [1, 2], [0, 1, 2], [2, 1], [(1, 2)], [[1]], [[]]], False)

    def test_set(self):
        self.check("set", [[], [0], [TOP], [0, 1], [0, TOP], [1, 5, 7, 999999998, TOP]], True)
        self.check("set", [[1, 0], [0, 0], [TOP, TOP], [1, 2, 2], [1, 1, 2], [1, 3, 2], [2, 1, 3], [TOP, 0], [3, 2, 1],
                           [1, 2, 1]], False)

    def test_row(self):
        self.check("row", [[], [0], [TOP], [1, 0], [0, 0], [TOP, TOP, 0], [3, 1, 2, 1], [1, 2, 3]], True)
        self.check("row", [[(1, 2)], [0, (1, 2)], [[0]]], False)

    def test_map(self):
        self.check("map", [[], [(0, 0)], [(TOP, TOP)], [(0, 5), (1, 5)], [(0, 9), (1, 8), (TOP, 7)],
                           [(2, 1), (3, 0)]], True)
        self.check("map", [[(1, 0), (0, 1)], [(1, 2), (1, 2)], [(1, 2), (1, 3)], [(1, 3), (1, 2)],
                           [(0, 0), (2, 0), (1, 0)], [(0, 0), (1, 0), (1, 1)], [(0, 0), (1, 0), (0, 0)]], False)

    def test_long_states(self):
        for word in ("set", "row", "map"):
            long = long_state(word, 1000)
            self.check(word, [long], True)
            self.check(word, [long[:-1] + [True], long[:-1] + [-1], [None] + long, long[:500] + ["1"] + long[500:]],
                       False)
        for word in ("most", "once"):
            self.check(word, [long_state(word, 1000)], False)
        self.check("set", [long_state("set", 1000) + [0], long_state("set", 1000) + [2997]], False)
        self.check("map", [long_state("map", 1000) + [(0, 0)], long_state("map", 1000) + [(2997, 999)]], False)

    def test_no_number_where_a_number_ought_to_stand(self):
        for word in ("most", "set", "once", "row"):
            self.check(word, [[thing] for thing in NO_NUMBERS], False)
        for word in ("set", "row"):
            self.check(word, [[0, thing] for thing in NO_NUMBERS], False)
            self.check(word, [[thing, TOP] for thing in NO_NUMBERS], False)
            self.check(word, [[0, thing, TOP] for thing in NO_NUMBERS], False)

    def test_no_tuple_of_two_numbers_where_one_ought_to_stand(self):
        self.check("map", [[thing] for thing in NO_PAIRS], False)
        self.check("map", [[(0, 0), thing] for thing in NO_PAIRS], False)
        self.check("map", [[thing, (TOP, 0)] for thing in NO_PAIRS], False)

    def test_no_number_in_a_tuple(self):
        self.check("map", [[(thing, 1)] for thing in NO_NUMBERS], False)
        self.check("map", [[(1, thing)] for thing in NO_NUMBERS], False)
        self.check("map", [[(0, 0), (thing, 1)] for thing in NO_NUMBERS], False)
        self.check("map", [[(0, thing), (1, 1)] for thing in NO_NUMBERS], False)

    def test_no_list(self):
        for word in KINDS:
            self.check(word, NO_LISTS, False)

    def test_a_list_within_itself(self):
        ring = []
        ring.append(ring)
        for word in KINDS:
            self.check(word, [ring, [ring]], False)


if __name__ == "__main__":
    unittest.main()
