"""The refusals: their names, what they stand under, and the ring of Ring."""

import unittest

from causebook import errors

NAMES = [
    "NoShare", "NoBook", "Ring", "NoOrder", "NoGround", "NotTold", "NoHidden",
    "NoText", "TooGreat", "NoRow", "NoName", "NoValue", "NoQuestion",
]


def made(name):
    kind = getattr(errors, name)
    return kind([0, 2]) if name == "Ring" else kind("words")


class TheClasses(unittest.TestCase):
    def test_there_are_thirteen(self):
        self.assertEqual(len(set(NAMES)), 13)
        self.assertEqual(len({getattr(errors, name) for name in NAMES}), 13)

    def test_book_error_stands_under_value_error(self):
        self.assertEqual(errors.BookError.__bases__, (ValueError,))
        with self.assertRaises(ValueError):
            raise errors.BookError("words")

    def test_each_is_a_book_error_and_a_value_error(self):
        for name in NAMES:
            with self.subTest(name=name):
                error = made(name)
                self.assertIsInstance(error, errors.BookError)
                self.assertIsInstance(error, ValueError)

    def test_none_stands_under_another(self):
        for name in NAMES:
            for other in NAMES:
                if name != other:
                    with self.subTest(name=name, other=other):
                        self.assertNotIsInstance(made(name), getattr(errors, other))

    def test_book_error_is_none_of_them(self):
        for name in NAMES:
            self.assertNotIsInstance(errors.BookError("words"), getattr(errors, name))

    def test_each_is_raised_and_taken_by_its_name(self):
        for name in NAMES:
            with self.subTest(name=name), self.assertRaises(getattr(errors, name)):
                raise made(name)

    def test_each_but_ring_can_be_made_of_nothing(self):
        for name in NAMES:
            if name != "Ring":
                self.assertIsInstance(getattr(errors, name)(), errors.BookError)


class TheRing(unittest.TestCase):
    def test_it_has_the_list_it_was_made_of(self):
        for ring in ([0], [0, 1], [2, 5, 3], list(range(12))):
            self.assertEqual(errors.Ring(ring).ring, ring)
            self.assertIsInstance(errors.Ring(ring).ring, list)

    def test_it_has_it_when_it_is_taken(self):
        with self.assertRaises(errors.Ring) as taken:
            raise errors.Ring([1, 4])
        self.assertEqual(taken.exception.ring, [1, 4])

    def test_two_of_them_have_each_its_own(self):
        one, other = errors.Ring([0]), errors.Ring([1, 2])
        self.assertEqual((one.ring, other.ring), ([0], [1, 2]))

    def test_the_list_handed_in_and_the_one_told_are_two(self):
        ring = [0, 3]
        error = errors.Ring(ring)
        self.assertEqual(ring, [0, 3])
        ring.append(7)
        self.assertEqual(error.ring, [0, 3])
        error.ring.append(9)
        self.assertEqual(ring, [0, 3, 7])


if __name__ == "__main__":
    unittest.main()
