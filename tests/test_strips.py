import time
import unittest
from itertools import product

from stampsheet.errors import NoNumber
from stampsheet.strips import best_strip
from stampsheet.worths import first_missing, worths
from tests.plain import plain_rows, plain_runs, plain_worths
from tests.samples import NO_STRIP_NUMBERS

SECONDS = 4
NUMBERS = (1, 2, 3, 4)


def most_runs(many):
    return many * (many + 1) // 2


class BestStrip(unittest.TestCase):
    def test_written_out(self):
        self.assertEqual(best_strip(1), (1, (1,)))
        self.assertEqual(best_strip(2), (3, (1, 2)))
        self.assertEqual(best_strip(3), (6, (1, 3, 2)))
        self.assertEqual(best_strip(4), (9, (1, 1, 4, 3)))

    def test_a_tuple_of_the_reach_and_the_row(self):
        for many in NUMBERS:
            with self.subTest(many=many):
                told = best_strip(many)
                self.assertIs(type(told), tuple)
                self.assertEqual(len(told), 2)
                self.assertIs(type(told[0]), int)
                self.assertIs(type(told[1]), tuple)
                self.assertEqual([type(number) for number in told[1]], [int] * many)

    def test_it_has_all_worths_up_to_the_reach_and_no_stamp_above_it(self):
        for many in NUMBERS:
            with self.subTest(many=many):
                reach, row = best_strip(many)
                self.assertEqual(worths((row,), 12)[:reach], list(range(1, reach + 1)))
                self.assertGreater(first_missing((row,), many), reach)
                self.assertLessEqual(max(row), reach)
                self.assertGreaterEqual(min(row), 1)

    def test_no_row_ahead_of_it_does(self):
        for many in NUMBERS:
            with self.subTest(many=many):
                reach, row = best_strip(many)
                self.assertEqual(next(plain_rows(many, reach)), row)

    def test_none_reaches_further(self):
        # A strip has no more worths than runs, so beyond so many none can reach; two more are tried all the same.
        for many in NUMBERS:
            for further in range(best_strip(many)[0] + 1, most_runs(many) + 3):
                with self.subTest(many=many, further=further):
                    self.assertEqual(list(plain_rows(many, further)), [])

    def test_the_worths_of_a_strip_are_those_of_its_runs(self):
        # What the plain search goes by, against the search for all pieces.
        for many in NUMBERS:
            for row in product((1, 2, 3, 7), repeat=many):
                self.assertEqual(sorted(plain_runs(row)), plain_worths((row,), 12))

    def test_equal_answers_each_time(self):
        for many in NUMBERS + tuple(reversed(NUMBERS)):
            self.assertEqual(best_strip(many), best_strip(many))

    def test_within_a_few_seconds(self):
        for many in NUMBERS:
            with self.subTest(many=many):
                start = time.perf_counter()
                best_strip(many)
                self.assertLess(time.perf_counter() - start, SECONDS)

    def test_what_is_no_number_of_1_to_4_is_refused(self):
        for number, thing in enumerate(NO_STRIP_NUMBERS):
            with self.subTest(number=number):
                with self.assertRaises(NoNumber):
                    best_strip(thing)

    def test_the_edges(self):
        for thing in (0, 5, -1, True, False, "1", "4", None, [1], [4], (2,), 1.0, 4.0):
            with self.subTest(thing=thing):
                with self.assertRaises(NoNumber):
                    best_strip(thing)
        best_strip(1)
        best_strip(4)


if __name__ == "__main__":
    unittest.main()
