import unittest

from origincert.book import Book
from tests.helper import ask, kept, last_answer, new_book

FAR = 10 ** 18
ACCOUNT, DEVICE, MONTH, NUMBER = (1, 32), (1, 16), (0, 12000), (1, 10 ** 9)
USE, CHOICE = (1, 1000000), (-1, 9)

# Written out once more from the document, not taken from the program.
RANGES = {
    0: [(1, 12000), (0, 12000)],
    1: [],
    2: [ACCOUNT, (0, 9)],
    3: [DEVICE, ACCOUNT],
    4: [DEVICE, MONTH, (0, 10 ** 9)],
    5: [DEVICE, MONTH],
    6: [ACCOUNT, ACCOUNT, NUMBER, NUMBER],
    7: [ACCOUNT, ACCOUNT, CHOICE, NUMBER],
    8: [ACCOUNT, NUMBER, NUMBER, USE],
    9: [ACCOUNT, CHOICE, NUMBER, USE],
    10: [ACCOUNT, ACCOUNT, NUMBER, NUMBER],
    11: [NUMBER],
    12: [NUMBER],
    13: [MONTH],
    14: [DEVICE, NUMBER],
    15: [NUMBER],
    16: [ACCOUNT],
    17: [ACCOUNT, CHOICE],
    18: [USE],
    19: [DEVICE],
    20: [],
    21: [USE, (0, 10 ** 9)],
    22: [],
    23: [DEVICE, MONTH],
}


def calls_with(place, at, value):
    """The call with this value at one argument, and the first or the last of their ranges at the others."""
    for end in (0, 1):
        arguments = [bounds[end] for bounds in RANGES[place]]
        arguments[at] = value
        yield [place] + arguments


def each_argument():
    for place, ranges in RANGES.items():
        for at, bounds in enumerate(ranges):
            yield place, at, bounds


class RangesTest(unittest.TestCase):
    def test_beyond_a_range(self):
        for place, at, (low, high) in each_argument():
            for value in (low - 1, high + 1, -FAR, FAR):
                for call in calls_with(place, at, value):
                    with self.subTest(call=call):
                        self.assertEqual(last_answer(call), [-1])
                        book = new_book()
                        before = kept(book)
                        self.assertEqual(ask(book, *call), [-1])
                        self.assertEqual(kept(book), before)

    def test_at_the_ends_of_a_range(self):
        for place, at, bounds in each_argument():
            for value in bounds:
                for call in calls_with(place, at, value):
                    with self.subTest(call=call):
                        self.assertEqual(last_answer(call), [0] if place == 0 else [-2])

    def test_ends_are_taken_in_an_open_registry_too(self):
        for place, at, bounds in each_argument():
            for value in bounds:
                for call in calls_with(place, at, value):
                    with self.subTest(call=call):
                        self.assertNotIn(ask(new_book(), *call)[0], (-1, -2))

    def test_all_arguments_beyond(self):
        for place, ranges in RANGES.items():
            if ranges:
                self.assertEqual(ask(new_book(), place, *[FAR] * len(ranges)), [-1])
                self.assertEqual(ask(new_book(), place, *[-FAR] * len(ranges)), [-1])

    def test_every_call_but_open_needs_an_open_registry(self):
        for place, ranges in RANGES.items():
            if place != 0:
                book = Book()
                before = kept(book)
                self.assertEqual(ask(book, place, *[low for low, high in ranges]), [-2])
                self.assertEqual(kept(book), before)


if __name__ == "__main__":
    unittest.main()
