import unittest
from itertools import product

from surejoin.runs import apart, run
from surejoin.texts import read
from tests.small import drawn_text

PUT = ("put", "b", [1])
PASS = ("pass", "b", "many", 1, None)
BEGIN = ("begin", "f", 3, [1])
OTHERS = (("let", "b", 1), ("tell", 1), ("test", 0), ("stop",), ("nought",))


class TestApart(unittest.TestCase):
    def check(self, one, other, expected):
        self.assertIs(apart(one, other), expected, (one, other))
        self.assertIs(apart(other, one), expected, (other, one))

    def test_like_paths_are_never_apart(self):
        for path in ((), (0,), (3, 1)):
            for deed, later in product((PUT, PASS, BEGIN) + OTHERS, repeat=2):
                self.check((path, 3, deed), (path, 4, later), False)
                self.check((path, 3, deed), (path, 3, deed), False)

    def test_unlike_paths(self):
        for one, other in (((), (0,)), ((0,), (1,)), ((0, 1), (1, 0)), ((2,), (2, 0)), ((0, 0), (0, 1)), ((), (1, 2, 3))):
            for deed, later in product(OTHERS, repeat=2):
                self.check((one, 3, deed), (other, 3, later), True)
            for deed in OTHERS:
                for later in (PUT, PASS):
                    self.check((one, 3, deed), (other, 3, later), True)
                    self.check((one, 3, later), (other, 3, deed), True)

    def test_a_begin_by_one_whose_path_is_the_beginning_of_the_other(self):
        for one, other in (((), (0,)), ((), (7,)), ((), (0, 0)), ((), (3, 2, 1)), ((4,), (4, 0)), ((4,), (4, 1, 2)),
                           ((0, 1), (0, 1, 0))):
            for deed in (PUT, PASS, BEGIN) + OTHERS:
                self.check((one, 3, BEGIN), (other, 9, deed), False)

    def test_a_begin_by_another_thread(self):
        for one, other in (((0,), ()), ((4, 0), (4,)), ((1,), (0,)), ((0,), (1, 0)), ((1, 0), (0,)), ((0, 1), (0, 0, 1)),
                           ((1,), (0, 1)), ((0, 0), (0,)), ((0, 0, 0), ()), ((1, 1), (1, 0)), ((1,), (10,))):
            for deed in (PUT, PASS) + OTHERS:
                self.check((one, 3, BEGIN), (other, 9, deed), True)
        for one, other in (((0,), (1,)), ((0, 1), (1, 0)), ((1, 0), (1, 1))):
            self.check((one, 3, BEGIN), (other, 3, BEGIN), True)
        # The one that goes on from the other begins a thread: the other's begin alone counts.
        self.check(((), 3, ("tell", 1)), ((0,), 4, BEGIN), True)
        self.check(((), 3, BEGIN), ((0,), 4, BEGIN), False)

    def test_a_begin_without_a_number_is_none(self):
        self.check(((), 3, ("nought",)), ((0,), 4, ("tell", 1)), True)

    def test_a_put_and_a_pass(self):
        for path, other in (((), (0,)), ((1,), (0,)), ((0, 1), (1,))):
            for word, given in (("many", None), ("held", 4), ("item", 4), ("has", None), ("least", None)):
                self.check((path, 3, PUT), (other, 4, ("pass", "b", word, 0, given)), False)
                self.check((path, 3, PUT), (other, 4, ("pass", "c", word, 0, given)), True)
                self.check((path, 3, ("put", "bb", [1])), (other, 4, ("pass", "b", word, 0, given)), True)

    def test_two_puts_and_two_passes_of_one_box(self):
        self.check(((), 3, PUT), ((0,), 3, PUT), True)
        self.check(((0,), 3, PUT), ((1,), 4, ("put", "b", [2])), True)
        self.check(((0,), 3, PASS), ((1,), 3, PASS), True)
        self.check(((), 3, PASS), ((1,), 3, ("pass", "b", "has", 3, None)), True)

    def test_a_let_of_a_name_called_like_the_box_does_not_count(self):
        self.check(((0,), 3, ("let", "b", 1)), ((1,), 3, PASS), True)
        self.check(((0,), 3, ("begin", "b", 1, [])), ((1,), 3, PASS), True)

    def test_what_is_handed_in_stays(self):
        one, other = ((), 3, ("begin", "f", 3, [1])), ((0,), 3, ("put", "b", [1]))
        apart(one, other)
        self.assertEqual((one, other), (((), 3, ("begin", "f", 3, [1])), ((0,), 3, ("put", "b", [1]))))

    def test_entries_of_logs(self):
        seen = {}
        for seed in range(30):
            log = run(read(drawn_text(seed)), 60, [1, 0, 2]).log
            for one, other in product(log[:40], repeat=2):
                expected = one[0] != other[0]
                for first, second in ((one, other), (other, one)):
                    if first[2][0] == "begin" and second[0][:len(first[0])] == first[0]:
                        expected = False
                    if (first[2][0], second[2][0]) == ("put", "pass") and first[2][1] == second[2][1]:
                        expected = False
                self.assertIs(apart(one, other), expected)
                seen[expected] = seen.get(expected, 0) + 1
        self.assertGreater(min(seen.values()), 500)


if __name__ == "__main__":
    unittest.main()
