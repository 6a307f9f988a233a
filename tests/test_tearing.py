import copy
import unittest
from itertools import permutations

from stampsheet.errors import NoNumber, NoPiece, NoSheet, NoWants
from stampsheet.tearing import fair, fewest_tears, tears, torn
from tests.plain import all_sheets, hang_together, partings, plain_plans, plain_stamps, plain_tears
from tests.plain import plain_worth, sums
from tests.samples import APART, COLUMN, ENDS, HUGE, NINE, NO_NUMBERS, NO_PARTS_OF_SQUARE, NO_SHEETS
from tests.samples import NO_WANTS, ONE, RING, ROW, SHEETS, SPREAD, SQUARE, TWELVE

ONES = ((1,) * 4,) * 3
ONES_OF_NINE = ((1,) * 3,) * 3

# Sizes, and the places that all sheets of this size are made of.
SMALL = [(1, 4, (None, 1, 2, 3)), (2, 2, (None, 1, 2, 3)), (2, 3, (None, 1, 2)), (5, 1, (None, 1, 2))]


def small_sheets():
    for rows, columns, places in SMALL:
        yield from all_sheets(rows, columns, places)


def total_of(sheet):
    return plain_worth(sheet, plain_stamps(sheet))


def is_plan(sheet, wants, told):
    """Whether it is a plan by the document's words alone."""
    if type(told) is not list or any(type(piece) is not tuple for piece in told):
        return False
    if [plain_worth(sheet, piece) for piece in told] != list(wants):
        return False
    if not all(list(piece) == sorted(piece) and hang_together(piece) for piece in told):
        return False
    return sorted(cell for piece in told for cell in piece) == plain_stamps(sheet)


class Tearing(unittest.TestCase):
    def check_plan(self, sheet, wants, fewest):
        wants = list(wants)
        told = torn(sheet, wants)
        if fewest is None and told is not None or fewest is not None and not is_plan(sheet, wants, told):
            self.fail(f"torn {sheet} {wants}: {told}")
        if fewest_tears(sheet, wants) != fewest:
            self.fail(f"fewest_tears {sheet} {wants}: {fewest_tears(sheet, wants)}, not {fewest}")


class Torn(Tearing):
    def test_written_out(self):
        self.assertEqual(torn(ONE, [7]), [((0, 0),)])
        self.assertEqual(torn(SQUARE, [10]), [((0, 0), (0, 1), (1, 0), (1, 1))])
        self.assertEqual(torn(SQUARE, [7, 3]), [((1, 0), (1, 1)), ((0, 0), (0, 1))])
        self.assertEqual(torn(SQUARE, [4, 6]), [((0, 0), (1, 0)), ((0, 1), (1, 1))])
        self.assertEqual(torn(SQUARE, [3, 1, 4, 2]), [((1, 0),), ((0, 0),), ((1, 1),), ((0, 1),)])
        self.assertEqual(torn(APART, [8, 13, 5]), [((2, 0),), ((0, 2), (1, 2)), ((0, 0),)])

    def test_the_kth_piece_has_the_kth_worth(self):
        for wants in permutations([1, 2, 3, 4]):
            with self.subTest(wants=wants):
                self.assertTrue(is_plan(SQUARE, wants, torn(SQUARE, list(wants))))
        for wants in permutations([6, 15, 24]):
            with self.subTest(wants=wants):
                self.assertTrue(is_plan(NINE, wants, torn(NINE, list(wants))))
        for wants in set(permutations([1, 1, 2, 2, 3])):
            with self.subTest(wants=wants):
                self.assertTrue(is_plan(ONES_OF_NINE, wants, torn(ONES_OF_NINE, list(wants))))

    def test_equal_wants(self):
        self.assertTrue(is_plan(RING, [2] * 4, torn(RING, [2] * 4)))
        self.assertTrue(is_plan(RING, [4] * 2, torn(RING, [4] * 2)))
        self.assertTrue(is_plan(ONES, [1] * 12, torn(ONES, [1] * 12)))
        self.assertTrue(is_plan(ONES, [3, 2, 3, 2, 2], torn(ONES, [3, 2, 3, 2, 2])))
        self.assertIsNone(torn(SQUARE, [5, 5]))

    def test_none_where_there_is_none(self):
        for sheet, wants in [
            (ONE, [6]), (ONE, [8]), (ONE, [3, 4]), (ONE, [7, 7]),
            (SQUARE, [9]), (SQUARE, [11]), (SQUARE, [3, 7, 10]), (SQUARE, [3]), (SQUARE, [HUGE]), (SQUARE, [10, HUGE]),
            (SQUARE, [1, 1, 8]), (SQUARE, [1, 1, 1, 1, 6]), (SQUARE, [1] * 10),
            (APART, [26]), (APART, [11, 15]), (((1, None, 1),), [2]), (ENDS, [5000, 5000]),
            # Each want is some piece's worth, and their sum is right, but what is left doesn't hang together.
            (((1, 2, 1),), [2, 2]), (((1, 5, 2, None, 3),), [5, 3, 3]),
        ]:
            with self.subTest(sheet=sheet, number=len(wants)):
                self.assertIsNone(torn(sheet, wants))
                self.assertIsNone(fewest_tears(sheet, wants))

    def test_more_wants_than_stamps(self):
        for sheet in [ONE, ROW, SQUARE, ENDS, RING, NINE]:
            many = len(plain_stamps(sheet))
            for wants in [[1] * (many + 1), [1] * many + [max(1, total_of(sheet) - many)], [1] * 12]:
                with self.subTest(sheet=sheet, wants=wants):
                    self.assertIsNone(torn(sheet, wants))
                    self.assertIsNone(fewest_tears(sheet, wants))

    def test_another_sum_than_the_sheets_worth(self):
        for sheet in [SQUARE, ROW, RING, APART]:
            for wants in [[total_of(sheet) - 1], [total_of(sheet) + 1], [1], [total_of(sheet), 1], [9999] * 12]:
                with self.subTest(sheet=sheet, wants=wants):
                    self.assertIsNone(torn(sheet, wants))
                    self.assertIsNone(fewest_tears(sheet, wants))

    def test_the_wants_stay(self):
        for wants in ([3, 7], [7, 3], [4, 3, 2, 1], [1, 9], [5, 5], [10], [99]):
            as_handed_in = list(wants)
            torn(SQUARE, wants)
            fewest_tears(SQUARE, wants)
            self.assertEqual(wants, as_handed_in)

    def test_all_wants_of_small_sheets_against_the_plain_search(self):
        for sheet in small_sheets():
            fewest = plain_plans(sheet)
            for wants in sums(total_of(sheet)):
                if len(wants) <= 12:
                    self.check_plan(sheet, wants, fewest.get(wants))

    def test_all_wants_of_ones_against_the_plain_search(self):
        for sheet in (RING, ONES_OF_NINE, ((1, 1, 1, 1), (1, None, 1, 1)), ((1, 1, 1), (None, 1, 1), (None, 1, None))):
            fewest = plain_plans(sheet)
            for wants in sums(total_of(sheet)):
                self.check_plan(sheet, wants, fewest.get(wants))
                self.check_plan(sheet, wants[::-1], fewest.get(wants))

    def test_all_plans_of_larger_worths_against_the_plain_search(self):
        for sheet in (NINE, ROW, COLUMN, ENDS, APART, ((9999, 1, 5000), (17, 4999, 9999))):
            fewest = plain_plans(sheet)
            for number, wants in enumerate(sorted(fewest)):
                turned = wants[number % len(wants):] + wants[:number % len(wants)]
                self.check_plan(sheet, turned, fewest[wants])

    def test_stamps_that_are_all_apart(self):
        wants = [12, 11, 10, 9, 8, 7, 6, 5, 4, 3, 2, 1]
        self.assertTrue(is_plan(SPREAD, wants, torn(SPREAD, wants)))
        self.assertEqual(fewest_tears(SPREAD, wants), 0)
        self.assertIsNone(torn(SPREAD, [13, 10, 9, 8, 7, 6, 5, 4, 3, 2, 11]))

    def test_what_are_no_wants_is_refused(self):
        for number, thing in enumerate(NO_WANTS):
            for call in (torn, fewest_tears):
                with self.subTest(number=number, call=call.__name__):
                    with self.assertRaises(NoWants):
                        call(SQUARE, thing)

    def test_thirteen_wants_are_refused_and_twelve_are_not(self):
        self.assertTrue(is_plan(TWELVE, range(1, 13), torn(TWELVE, list(range(1, 13)))))
        for wants in ([6] * 13, [1] * 12 + [66], list(range(1, 14))):
            with self.assertRaises(NoWants):
                torn(TWELVE, wants)

    def test_what_is_no_sheet_is_refused(self):
        for number, thing in enumerate(NO_SHEETS):
            for call in (
                lambda: torn(thing, [1]), lambda: fewest_tears(thing, [1]),
                lambda: tears(thing, [((0, 0),)]), lambda: fair(thing, 1),
            ):
                with self.subTest(number=number):
                    with self.assertRaises(NoSheet):
                        call()


class Tears(unittest.TestCase):
    def test_one_part(self):
        for sheet in [ONE, ROW, COLUMN, SQUARE, NINE, TWELVE, ENDS, RING]:
            with self.subTest(sheet=sheet):
                self.assertEqual(tears(sheet, [tuple(plain_stamps(sheet))]), 0)

    def test_parts_of_one_stamp_each(self):
        for sheet, many in [
            (ONE, 0), (ENDS, 1), (ROW, 4), (COLUMN, 4), (SQUARE, 4), (NINE, 12), (TWELVE, 17), (RING, 8),
            (APART, 1), (SPREAD, 0),
        ]:
            with self.subTest(sheet=sheet):
                self.assertEqual(tears(sheet, [(cell,) for cell in plain_stamps(sheet)]), many)

    def test_written_out(self):
        self.assertEqual(tears(SQUARE, [((0, 0), (0, 1)), ((1, 0), (1, 1))]), 2)
        self.assertEqual(tears(SQUARE, [((1, 1),), ((0, 0), (0, 1), (1, 0))]), 2)
        self.assertEqual(tears(SQUARE, [((1, 1),), ((0, 0),), ((0, 1),), ((1, 0),)]), 4)
        # The ends of a hook are near one another and lie in one piece: no tear.
        self.assertEqual(tears(SQUARE, [((0, 0), (0, 1), (1, 0), (1, 1))]), 0)
        self.assertEqual(tears(APART, [((2, 0),), ((0, 2), (1, 2)), ((0, 0),)]), 0)
        self.assertEqual(tears(NINE, [((0, 0), (0, 1), (0, 2), (1, 0), (1, 2), (2, 0), (2, 1), (2, 2)), ((1, 1),)]), 4)

    def test_all_parts_in_any_order_against_the_plain_count(self):
        for sheet in [ROW, SQUARE, RING, APART, ((1, 2, 3), (4, 5, 6))]:
            for parts in partings(plain_stamps(sheet)):
                if all(hang_together(part) for part in parts):
                    if {tears(sheet, parts), tears(sheet, parts[::-1])} != {plain_tears(sheet, parts)}:
                        self.fail(f"{sheet} {parts}")

    def test_the_parts_stay(self):
        for parts in ([((1, 0), (1, 1)), ((0, 0), (0, 1))], [((1, 1),), ((0, 0), (0, 1), (1, 0))]):
            as_handed_in = copy.deepcopy(parts)
            tears(SQUARE, parts)
            self.assertEqual(parts, as_handed_in)

    def test_what_are_no_parts_is_refused(self):
        for number, thing in enumerate(NO_PARTS_OF_SQUARE):
            with self.subTest(number=number):
                with self.assertRaises(NoPiece):
                    tears(SQUARE, thing)

    def test_holes_and_what_they_part_are_in_no_part(self):
        around = tuple(plain_stamps(RING))
        for sheet, parts in [
            (RING, [around, ((1, 1),)]), (RING, [tuple(sorted(around + ((1, 1),)))]),
            (APART, [tuple(plain_stamps(APART))]), (APART, [((0, 0), (2, 0)), ((0, 2), (1, 2))]),
            (ONE, []), (ONE, [((0, 0),), ((0, 0),)]), (ONE, ((0, 0),)), (ONE, (((0, 0),),)),
        ]:
            with self.subTest(sheet=sheet, parts=parts):
                with self.assertRaises(NoPiece):
                    tears(sheet, parts)


class FewestTears(unittest.TestCase):
    # Against the plain search through all plans: together with torn, above.

    def test_written_out(self):
        self.assertEqual(fewest_tears(ONE, [7]), 0)
        self.assertEqual(fewest_tears(SQUARE, [10]), 0)
        self.assertEqual(fewest_tears(SQUARE, [3, 7]), 2)
        self.assertEqual(fewest_tears(SQUARE, [1, 2, 3, 4]), 4)
        self.assertEqual(fewest_tears(ROW, [3, 3, 9]), 2)
        self.assertEqual(fewest_tears(ONES, [6, 6]), 3)
        self.assertEqual(fewest_tears(ONES, [3, 9]), 3)
        self.assertEqual(fewest_tears(ONES, [4, 8]), 4)
        self.assertEqual(fewest_tears(ONES, [4, 4, 4]), 6)
        self.assertEqual(fewest_tears(ONES, [1] * 12), 17)
        self.assertEqual(fewest_tears(ONES, [1, 11]), 2)
        self.assertIs(type(fewest_tears(ONES, [12])), int)

    def test_the_order_of_the_wants_does_not_matter(self):
        for wants in set(permutations([1, 2, 2, 3, 4])):
            with self.subTest(wants=wants):
                self.assertEqual(fewest_tears(ONES, list(wants)), fewest_tears(ONES, [1, 2, 2, 3, 4]))

    def test_none_where_there_is_no_plan(self):
        for sheet, wants in [(SQUARE, [5, 5]), (SQUARE, [11]), (APART, [26]), (ENDS, [1, 9998]), (RING, [1] * 7)]:
            with self.subTest(sheet=sheet, wants=wants):
                self.assertIsNone(fewest_tears(sheet, wants))


class Fair(Tearing):
    def test_written_out(self):
        self.assertEqual(fair(ONE, 1), [((0, 0),)])
        self.assertEqual(fair(SQUARE, 1), [((0, 0), (0, 1), (1, 0), (1, 1))])
        self.assertEqual(sorted(fair(((1, 3), (2, 2)), 2)), [((0, 0), (0, 1)), ((1, 0), (1, 1))])
        self.assertEqual(sorted(fair(((4, None, 4),), 2)), [((0, 0),), ((0, 2),)])

    def test_the_share_is_no_whole_number(self):
        for sheet, many in [(ONE, 2), (ONE, 12), (SQUARE, 3), (SQUARE, 4), (ENDS, 3), (((2, 2, 1),), 2)]:
            with self.subTest(sheet=sheet, many=many):
                self.assertIsNone(fair(sheet, many))

    def test_more_pieces_than_stamps(self):
        for sheet, many in [(ONE, 7), (((12,),), 12), (((12,),), 2), (SQUARE, 5), (SQUARE, 10), (ENDS, 4), (ROW, 12)]:
            with self.subTest(sheet=sheet, many=many):
                self.assertIsNone(fair(sheet, many))

    def test_none_where_the_pieces_do_not_come_out(self):
        for sheet, many in [(SQUARE, 2), (APART, 1), (APART, 2), (((1, 2, 1),), 2), (SPREAD, 2)]:
            with self.subTest(sheet=sheet, many=many):
                self.assertIsNone(fair(sheet, many))

    def test_each_number_of_pieces_against_the_plain_search(self):
        for sheet in list(small_sheets()) + [NINE, RING, ONES_OF_NINE, ROW, APART, ENDS, ((4, 2, 6), (3, 3, 6))]:
            fewest = plain_plans(sheet)
            for many in range(1, 13):
                shares = [wants for wants in fewest if len(wants) == many and len(set(wants)) == 1]
                told = fair(sheet, many)
                if not shares and told is not None or shares and not is_plan(sheet, shares[0], told):
                    self.fail(f"{sheet} {many}: {told}")

    def test_twelve_stamps(self):
        for many in range(1, 13):
            with self.subTest(many=many):
                told = fair(ONES, many)
                if 12 % many:
                    self.assertIsNone(told)
                else:
                    self.assertTrue(is_plan(ONES, [12 // many] * many, told))

    def test_what_is_no_number_of_stamps_is_refused(self):
        for number, thing in enumerate(NO_NUMBERS):
            for sheet in (((1,),), SQUARE, TWELVE):
                with self.subTest(number=number):
                    with self.assertRaises(NoNumber):
                        fair(sheet, thing)


if __name__ == "__main__":
    unittest.main()
