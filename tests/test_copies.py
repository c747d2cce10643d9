import unittest
from copy import deepcopy

from surejoin.kinds import kind_of
from tests.small import KINDS, LOOKS, TOP, WAITS, small_states


class TestCopies(unittest.TestCase):
    def test_what_is_handed_in_stays_as_it_was(self):
        for word in KINDS:
            kind = kind_of(word)
            for one in small_states(word):
                for other in small_states(word):
                    before = deepcopy((one, other))
                    kind.is_state(one)
                    kind.joined(one, other)
                    kind.under(one, other)
                    for n in (0, 1, TOP):
                        for wait in WAITS[word]:
                            kind.passes(one, wait, n)
                            kind.gives(one, wait, n)
                        for look in LOOKS[word]:
                            kind.seen(one, look, n)
                    self.assertEqual((one, other), before)

    def test_things_that_are_no_states_stay_as_they_were(self):
        for word in KINDS:
            for thing in ([3, 1, 2], [1, 1], [[1, 2]], [(2, 1), (1, 2)], [True], {1: 2}, [None, "a"]):
                before = deepcopy(thing)
                kind_of(word).is_state(thing)
                self.assertEqual(thing, before)

    def test_a_list_that_is_told_is_new(self):
        for word in KINDS:
            kind = kind_of(word)
            for one in small_states(word):
                for other in small_states(word):
                    before = deepcopy((one, other))
                    told = kind.joined(one, other)
                    if told is None:
                        continue
                    kept = deepcopy(told)
                    told.append("changed")
                    told.insert(0, "changed")
                    self.assertEqual((one, other), before)
                    self.assertEqual(kind.joined(one, other), kept)
                    self.assertEqual(kind_of(word).joined(one, other), kept)

    def test_joined_with_the_very_same_list(self):
        for word in KINDS:
            kind = kind_of(word)
            for one in small_states(word):
                before = deepcopy(one)
                told = kind.joined(one, one)
                self.assertEqual(told, before)
                self.assertIsNot(told, one)
                told.clear()
                told.append("changed")
                self.assertEqual(one, before)
                self.assertEqual(kind.joined(one, one), before)

    def test_joined_with_nothing_either_way_round(self):
        for word in KINDS:
            kind = kind_of(word)
            for one in small_states(word):
                before = deepcopy(one)
                nothing = []
                for told in (kind.joined(one, nothing), kind.joined(nothing, one)):
                    self.assertEqual(told, before)
                    told.append("changed")
                    self.assertEqual(one, before)
                    self.assertEqual(nothing, [])

    def test_what_was_told_does_not_change_with_what_was_handed_in(self):
        for word in KINDS:
            for one in small_states(word):
                for other in small_states(word):
                    mine, yours = list(one), list(other)
                    told = kind_of(word).joined(mine, yours)
                    kept = deepcopy(told)
                    mine.append("changed")
                    yours.append("changed")
                    self.assertEqual(told, kept)

    def test_the_same_object_tells_by_what_the_list_is_now(self):
        for word, state, later in (
            ("most", [3], [8]), ("set", [3], [0, 8]), ("once", [3], [8]), ("row", [3], [8, 9]),
            ("map", [(3, 1)], [(0, 8), (8, 3)]),
        ):
            kind, fresh = kind_of(word), kind_of(word)
            self.ask_all(kind, word, state)
            state[:] = later
            self.assertEqual(self.ask_all(kind, word, state), self.ask_all(fresh, word, list(later)))
            state.clear()
            self.assertEqual(self.ask_all(kind, word, state), self.ask_all(fresh, word, []))
            state.append("3")
            self.assertIs(kind.is_state(state), False)

    def ask_all(self, kind, word, state):
        others = small_states(word)
        return [
            kind.is_state(state),
            [(kind.joined(state, other), kind.joined(other, state)) for other in others],
            [(kind.under(state, other), kind.under(other, state)) for other in others],
            [(kind.passes(state, wait, n), kind.gives(state, wait, n)) for wait in WAITS[word] for n in range(10)],
            [kind.seen(state, look, n) for look in LOOKS[word] for n in range(10)],
        ]

    def test_answers_behind_a_change_by_name(self):
        kind = kind_of("once")
        state = []
        self.assertEqual((kind.passes(state, "held", 0), kind.gives(state, "held", 0)), (False, None))
        state.append(4)
        self.assertEqual((kind.passes(state, "held", 0), kind.gives(state, "held", 0)), (True, 4))
        self.assertEqual((kind.seen(state, "held", 0), kind.joined(state, [5])), (4, None))
        state[0] = 5
        self.assertEqual((kind.seen(state, "held", 0), kind.joined(state, [5])), (5, [5]))


if __name__ == "__main__":
    unittest.main()
