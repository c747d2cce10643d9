import unittest

from surejoin.errors import NoKind, NoName
from surejoin.texts import read
from tests.small import EXPRESSION_PLACES, FOUR_BOXES, KINDS, around, refusal


class TestNames(unittest.TestCase):
    def check(self, *texts):
        for text in texts:
            with self.subTest(text=text):
                self.assertIs(refusal(read, text), NoName)
                self.assertIs(refusal(read, text), NoName)

    def check_read(self, *texts):
        for text in texts:
            with self.subTest(text=text):
                self.assertIsNone(refusal(read, text))

    def test_two_boxes_alike(self):
        for one in KINDS:
            for other in KINDS:
                self.check(f"{one} b\n{other} b\njob main\nend", f"{one} b\nset c\n{other} b\njob main\nend",
                           f"row c\n{one} main\n{other} main\njob main\nend")
                self.check_read(f"{one} b\n{other} c\njob main\nend")

    def test_two_jobs_alike(self):
        self.check("job f\nend\njob f\nend\njob main\nend", "job main\nend\njob main\nend", "job f\nend\njob main\nend\njob f a\nend",
                   "job f a\nend\njob f\nend\njob main\nend", "job main\nend\njob main a\nend", "job main a\nend\njob main\nend")
        self.check_read("job f\nend\njob g\nend\njob main\nend")

    def test_two_parameters_alike(self):
        for params in ("a a", "a b a", "a b b", "a a b", "a b c a", "a b c c", "a b b c", "a a a a"):
            self.check(f"job f {params}\nend\njob main\nend", f"job main\nend\njob f {params}\nend")
        self.check_read("job f a b c d\nend\njob g a b c d\nend\njob main\nend")

    def test_no_main(self):
        self.check("most b", "ask 1", "most b\nask 1", "job f\nend", "job f\nend\njob mains\nend", "most main\njob f main\nend",
                   "job f\nlet main 1\nend\nask main", "job mai\nend", "job f\nend\nask 1")

    def test_main_with_parameters(self):
        for params in ("a", "a b", "a b c d", "main"):
            self.check(f"job main {params}\nend", f"job f\nend\njob main {params}\nend", f"job main {params}\nend\njob f\nend")

    def test_a_begin_of_what_is_no_job(self):
        self.check("job main\nbegin f 1\nend", "most f\njob main\nbegin f 1\nend", "job main\nlet f 1\nbegin f 1\nend",
                   "job g f\nbegin f 1\nend\njob main\nend", "job ff\nend\njob main\nbegin f 1\nend",
                   "job main\nif 1\nbegin f 1\nend\nend", "job main\nif 1\nelse\nbegin f 1\nend\nend",
                   "job main\nwhile 1\nbegin f 1\nend\nend", "job main\nend\njob g\nbegin f 1\nend")
        self.check_read("job f\nend\njob main\nbegin f 1\nend", "job main\nbegin f 1\nend\njob f\nend", "job f\nbegin f 1\nend\njob main\nend")

    def test_a_begin_of_main(self):
        self.check("job main\nbegin main 1\nend", "job f\nbegin main 1\nend\njob main\nend", "job main\nend\njob f\nbegin main 1\nend",
                   "job main\nbegin main 1 2\nend", "job main\nif 1\nelse\nbegin main 1\nend\nend")

    def test_a_begin_with_too_few_or_too_many(self):
        for params in range(5):
            job = " ".join(["job f"] + ["a", "b", "c", "d"][:params])
            for count in range(5):
                begin = "begin f 9" + " + 1 size b" * count
                for text in (f"set b\n{job}\nend\njob main\n{begin}\nend", f"set b\njob main\n{begin}\nend\n{job}\nend",
                             f"set b\n{job}\nif 1\nelse\n{begin}\nend\nend\njob main\nend"):
                    if count == params:
                        self.check_read(text)
                    else:
                        self.check(text)

    def test_a_begin_takes_the_count_of_its_own_job(self):
        jobs = "job f a\nend\njob g a b\nend\n"
        self.check_read(jobs + "job main\nbegin f 1 2\nbegin g 1 2 3\nend")
        self.check(jobs + "job main\nbegin g 1 2\nend", jobs + "job main\nbegin f 1 2 3\nend")

    def test_a_put_wait_or_get_that_names_no_box(self):
        for line in ("put q 1", "put q 1 2", "wait q least 1", "wait q has 1", "wait q many 1", "get x q", "get x q 1", "get o q",
                     "put f 1", "put main 1", "get x x", "put oo 1", "get r q 1"):
            self.check(f"{FOUR_BOXES}job f\nend\njob main\n{line}\nend", f"{FOUR_BOXES}job f\nend\njob main\nif 1\n{line}\nend\nend",
                       f"{FOUR_BOXES}job f\nend\njob main\nif 1\nelse\n{line}\nend\nend", f"{FOUR_BOXES}job f\nend\njob main\nstop\n{line}\nend",
                       f"{FOUR_BOXES}job f\n{line}\nend\njob main\nend", f"{FOUR_BOXES}job f\nend\njob main\nwhile 1\n{line}\nend\nend")
        self.check("job main\nput b 1\nend", "job main\nlet b 1\nput b 1\nend", "job main\nend\njob f b\nput b 1\nend")
        self.check_read(f"{FOUR_BOXES}job main\nget q o\nget q r 1\nend")

    def test_a_look_that_names_no_box(self):
        for place in EXPRESSION_PLACES:
            self.check_read(FOUR_BOXES + place.format("size o"), FOUR_BOXES + place.format("q"))
            for look in ("size q", "held q", "has q 1", "item q 1", "size x", "has main 1", "item r size q", "has q size m"):
                self.check(FOUR_BOXES + place.format(look))
            for E in around("size q"):
                self.check(FOUR_BOXES + place.format(E))
            for E in around("size o"):
                self.check_read(FOUR_BOXES + place.format(E))

    def test_due_ahead_of_kinds(self):
        for fault in ("put b 1 2", "wait b has 1", "get x b", "get x b 1", "tell item b 1", "if has b 1\nend"):
            self.assertIs(refusal(read, f"most b\njob main\n{fault}\nend"), NoKind)
            self.check(f"most b\njob main\n{fault}\nput q 1\nend", f"most b\njob main\n{fault}\nend\nask size q",
                       f"most b\njob main\n{fault}\nbegin f 1\nend", f"most b\njob main\n{fault}\nbegin main 1\nend",
                       f"most b\njob main\n{fault}\nend\njob f a a\nend", f"most b\njob main\n{fault}\nend\njob main\nend",
                       f"most b\njob mains\n{fault}\nend", f"most b\nset c\nrow c\njob main\n{fault}\nend",
                       f"most b\njob main a\n{fault}\nend", f"most b\njob f a\n{fault}\nend\njob main\nbegin f 1\nend")
        self.check("most b\njob main\nput b 1 size q\nend", "most b\njob main\ntell item b size q\nend",
                   "most b\njob main\nget x b held q\nend", "most b\njob main\nend\nask + has b 1 size q")


if __name__ == "__main__":
    unittest.main()
