import unittest

from farshelf import errors
from farshelf.errors import (BadEvent, Busy, NoMend, NoOrder, NoRow, NoSession, NotAlone, Ring, ShelfError,
                             Waiting)

WITH_TEXT = (NoMend, Waiting, Busy, NoSession, NotAlone, BadEvent)
REFUSALS = WITH_TEXT + (NoOrder, Ring, NoRow)


class Tree(unittest.TestCase):
    def test_shelf_error_stands_under_value_error(self):
        self.assertEqual(ShelfError.__bases__, (ValueError,))

    def test_each_stands_straight_under_shelf_error(self):
        for refusal in REFUSALS:
            with self.subTest(refusal=refusal):
                self.assertEqual(refusal.__bases__, (ShelfError,))

    def test_none_stands_under_another_one(self):
        for one in REFUSALS:
            for other in REFUSALS:
                with self.subTest(one=one, other=other):
                    self.assertEqual(issubclass(one, other), one is other)

    def test_these_are_all(self):
        found = [value for value in vars(errors).values() if isinstance(value, type)]
        self.assertCountEqual(found, REFUSALS + (ShelfError,))


class MadeWithText(unittest.TestCase):
    def test_raised_and_taken_by_name(self):
        for refusal in WITH_TEXT + (ShelfError,):
            with self.subTest(refusal=refusal):
                with self.assertRaises(refusal) as taken:
                    raise refusal("some words")
                self.assertEqual(str(taken.exception), "some words")

    def test_taken_as_shelf_error_and_as_value_error(self):
        for refusal in WITH_TEXT:
            for above in (ShelfError, ValueError):
                with self.subTest(refusal=refusal, above=above):
                    with self.assertRaises(above):
                        raise refusal("some words")


class Fields(unittest.TestCase):
    def test_raised_and_taken(self):
        with self.assertRaises(NoOrder) as taken:
            raise NoOrder(("root",))
        self.assertEqual(taken.exception.fault, ("root",))
        with self.assertRaises(ShelfError) as taken:
            raise Ring([3, 1, 2])
        self.assertEqual(taken.exception.ring, [3, 1, 2])
        with self.assertRaises(ValueError) as taken:
            raise NoRow(7)
        self.assertEqual(taken.exception.row, 7)

    def test_each_form_of_fault(self):
        for fault in (("twice", 4), ("root",), ("same", 0, "a"), ("blind", 2, "b"), ("names", 3), ("loose", 9),
                      ("ring", [5]), ("ring", [5, 6, 7])):
            with self.subTest(fault=fault):
                error = NoOrder(fault)
                self.assertEqual(error.fault, fault)
                self.assertIsInstance(error.fault, tuple)

    def test_row_nought(self):
        self.assertEqual(NoRow(0).row, 0)

    def test_ring_is_a_list(self):
        self.assertIsInstance(Ring([0]).ring, list)
        self.assertEqual(Ring([0]).ring, [0])

    def test_copies_are_kept_of_lists_handed_in(self):
        hands = [1, 2]
        error = Ring(hands)
        hands.append(3)
        self.assertEqual(error.ring, [1, 2])
        folders = [5, 6]
        error = NoOrder(("ring", folders))
        folders.clear()
        self.assertEqual(error.fault, ("ring", [5, 6]))

    def test_what_is_handed_in_is_not_changed(self):
        hands = [2, 1]
        fault = ("ring", [7, 6])
        Ring(hands).ring.append(9)
        NoOrder(fault).fault[1].append(9)
        self.assertEqual(hands, [2, 1])
        self.assertEqual(fault, ("ring", [7, 6]))


if __name__ == "__main__":
    unittest.main()
