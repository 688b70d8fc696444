import unittest

from tests.helper import (ACCOUNT, BILLION, CANCEL, CANCEL_SOME, DEVICE, DISCLOSE, ISSUE, METER, MOVE, OFFER, OPEN,
                          TICK, WITHDRAW, CallCase, ask, ask_all, new_book)

USE, OTHER = 50, 60


def shares(**parts):
    """An answer by its parts that aren't 0: t0 to t9 and unknown."""
    names = [f"t{technique}" for technique in range(10)] + ["unknown"]
    assert set(parts) <= set(names)
    return [0] + [parts.get(name, 0) for name in names]


def book_with(*devices):
    """Each device (technique, total, numbers cancelled for USE, numbers cancelled for OTHER), in month 0."""
    book = new_book(techniques=[device[0] for device in devices])
    for number, (technique, total, for_use, for_other) in enumerate(devices, start=1):
        ask(book, METER, number, 0, total)
        count, first = ask(book, ISSUE, number, 0)[1:]
        assert for_use + for_other <= count
        if for_use:
            assert ask(book, CANCEL, 1, first, first + for_use - 1, USE) == [0]
        if for_other:
            assert ask(book, CANCEL, 1, first + for_use, first + for_use + for_other - 1, OTHER) == [0]
    return book


class DiscloseTest(CallCase):
    def test_an_empty_registry(self):
        book = new_book(accounts=0, techniques=())
        self.asked(shares(), book, DISCLOSE, USE, 0)
        self.asked(shares(unknown=10000), book, DISCLOSE, USE, 1)
        self.asked(shares(unknown=10000), book, DISCLOSE, USE, BILLION)

    def test_a_total_of_0_though_something_is_left(self):
        book = book_with((3, 5000, 0, 2))
        self.asked(shares(), book, DISCLOSE, USE, 0)
        self.asked(shares(t3=10000), book, DISCLOSE, USE, 1)

    def test_all_covered(self):
        # W is 6000 of technique 1, but nothing of it is used.
        book = book_with((1, 7000, 1, 0), (8, 3000, 3, 0))
        for used in (0, 1, 3, 4):
            self.asked(shares(t1=2500, t8=7500), book, DISCLOSE, USE, used)

    def test_used_less_than_cancelled(self):
        book = book_with((1, 3000, 3, 0))
        self.asked(shares(t1=10000), book, DISCLOSE, USE, 2)
        self.asked(shares(t1=10000), book, DISCLOSE, USE, 0)

    def test_nothing_left_is_unknown(self):
        book = book_with((0, 1000, 1, 0), (9, 2000, 2, 0))
        self.asked(shares(t0=2500, t9=5000, unknown=2500), book, DISCLOSE, USE, 4)
        self.asked(shares(t0=3333, t9=6667), book, DISCLOSE, USE, 3)
        self.asked(shares(t0=1000, t9=2000, unknown=7000), book, DISCLOSE, USE, 10)

    def test_what_is_not_covered_is_spread_over_what_is_left(self):
        # k: 1 of technique 2; w: 2000 of technique 2, 6000 of technique 5; U 3: parts 8000 + 6000 and 18000 of 32000.
        book = book_with((2, 3000, 1, 0), (5, 6000, 0, 0))
        self.asked(shares(t2=4375, t5=5625), book, DISCLOSE, USE, 4)

    def test_a_use_with_nothing_cancelled(self):
        book = book_with((2, 3000, 1, 0), (5, 6000, 0, 0))
        self.asked(shares(t2=2500, t5=7500), book, DISCLOSE, OTHER, 1)
        self.asked(shares(t2=2500, t5=7500), book, DISCLOSE, OTHER, BILLION)
        self.asked(shares(), book, DISCLOSE, OTHER, 0)

    def test_what_is_cancelled_for_other_uses_is_not_left(self):
        # w: 7000 - 3000 of technique 0, 4000 of technique 1. USE has k 1 and U 1, OTHER k 2 and U 1.
        book = book_with((0, 7000, 1, 2), (1, 4000, 0, 0))
        self.asked(shares(t0=7500, t1=2500), book, DISCLOSE, USE, 2)
        self.asked(shares(t0=8333, t1=1667), book, DISCLOSE, OTHER, 3)

    def test_units_that_make_no_whole_number_are_left(self):
        book = book_with((4, 1001, 1, 0), (6, 3, 0, 0))
        self.asked(shares(t4=6250, t6=3750), book, DISCLOSE, USE, 2)

    def test_below_0_is_0(self):
        # Corrected later, technique 0 has less metered than cancelled: nothing of it is left, nor less than nothing.
        book = book_with((0, 5000, 0, 5), (1, 3000, 0, 0), (2, 1000, 0, 0))
        ask(book, METER, 1, 0, 2000)
        self.asked(shares(t1=7500, t2=2500), book, DISCLOSE, USE, 8)
        for device in (2, 3):
            ask(book, METER, device, 0, 0)
        self.asked(shares(unknown=10000), book, DISCLOSE, USE, 8)
        self.asked(shares(t0=6250, unknown=3750), book, DISCLOSE, OTHER, 8)

    def test_devices_of_one_technique_are_taken_together(self):
        # One device has 3000 less than cancelled, the other 4000 left: 1000 of their technique are left.
        book = book_with((7, 5000, 0, 5), (7, 4000, 0, 0), (8, 1000, 0, 0))
        ask(book, METER, 1, 0, 2000)
        self.asked(shares(t7=5000, t8=5000), book, DISCLOSE, USE, 8)

    def test_all_months_count(self):
        book = new_book(techniques=(0, 1), now=2)
        for device, month, total in ((1, 0, 100), (1, 1, 200), (1, 2, 300), (2, 2, 200)):
            ask(book, METER, device, month, total)
        self.asked(shares(t0=7500, t1=2500), book, DISCLOSE, USE, 1)

    def test_only_what_is_cancelled_counts(self):
        """Live, offered, expired and withdrawn numbers are units left like those never issued."""
        book = new_book(techniques=(0, 1), now=1)
        ask(book, METER, 1, 0, 5000)
        ask(book, METER, 2, 0, 15000)
        ask(book, ISSUE, 1, 0)
        answer = shares(t0=2500, t1=7500)
        self.asked(answer, book, DISCLOSE, 1, 1)
        ask(book, MOVE, 1, 2, 1, 1)
        # An offer with the number of the use.
        self.assertEqual(ask(book, OFFER, 1, 2, 2, 3), [0, 1])
        self.asked(answer, book, DISCLOSE, 1, 1)
        ask(book, METER, 1, 0, 4000)
        self.assertEqual(ask(book, WITHDRAW, 1, 1), [0, 1, 5, 5])
        ask(book, METER, 1, 0, 5000)
        self.asked(answer, book, DISCLOSE, 1, 1)
        self.assertEqual(ask(book, TICK, 12), [0, 4])
        self.asked(answer, book, DISCLOSE, 1, 1)

    def test_a_cancelled_one_too_old_still_counts(self):
        book = book_with((6, 2000, 2, 0))
        ask(book, TICK, 12000)
        self.asked(shares(t6=10000), book, DISCLOSE, USE, 2)

    def test_the_greatest_remainders_get_what_lacks(self):
        # Sevenths: 1428 and 4 / 7, 2857 and 1 / 7, 5714 and 2 / 7; one is lacking.
        book = book_with((1, 1000, 1, 0), (2, 2000, 2, 0), (3, 4000, 4, 0))
        self.asked(shares(t1=1429, t2=2857, t3=5714), book, DISCLOSE, USE, 7)
        book = book_with((1, 4000, 4, 0), (2, 2000, 2, 0), (3, 1000, 1, 0))
        self.asked(shares(t1=5714, t2=2857, t3=1429), book, DISCLOSE, USE, 7)

    def test_one_or_two_lacking(self):
        # Of 13: 769 and 3 / 13, 2307 and 9 / 13, 6923 and 1 / 13; one lacks.
        book = book_with((1, 1000, 1, 0), (2, 3000, 3, 0), (3, 9000, 9, 0))
        self.asked(shares(t1=769, t2=2308, t3=6923), book, DISCLOSE, USE, 13)
        # Of 6: 1666 and 4 / 6, 6666 and 4 / 6, 1666 and 4 / 6; two lack.
        book = book_with((1, 1000, 1, 0), (2, 4000, 4, 0), (3, 1000, 1, 0))
        self.asked(shares(t1=1667, t2=6667, t3=1666), book, DISCLOSE, USE, 6)
        # Of 17: 5882 and 6 / 17, 2941 and 3 / 17, 1176 and 8 / 17; one lacks.
        book = book_with((1, 10000, 10, 0), (5, 5000, 5, 0), (7, 2000, 2, 0))
        self.asked(shares(t1=5882, t5=2941, t7=1177), book, DISCLOSE, USE, 17)

    def test_the_earlier_first_where_remainders_are_the_same(self):
        book = book_with((9, 1000, 1, 0), (4, 1000, 1, 0), (6, 1000, 1, 0))
        self.asked(shares(t4=3334, t6=3333, t9=3333), book, DISCLOSE, USE, 3)
        devices = [(technique, 1000, 1, 0) for technique in (8, 7, 5, 3, 2, 1, 0)]
        # Sevenths: 1428 and 4 / 7 each; four lack.
        self.asked(shares(t0=1429, t1=1429, t2=1429, t3=1429, t5=1428, t7=1428, t8=1428), book_with(*devices),
                   DISCLOSE, USE, 7)

    def test_unknown_is_the_last(self):
        book = book_with((9, 1000, 1, 0), (0, 1000, 1, 0))
        self.asked(shares(t0=3334, t9=3333, unknown=3333), book, DISCLOSE, USE, 3)
        # Of 7: 1428 and 4 / 7 twice, 7142 and 6 / 7: two lack, the first of them for unknown.
        book = book_with((9, 1000, 1, 0), (0, 1000, 1, 0))
        self.asked(shares(t0=1429, t9=1428, unknown=7143), book, DISCLOSE, USE, 7)

    def test_a_tiny_part_gets_none(self):
        book = book_with((0, 1000, 1, 0))
        self.asked(shares(unknown=10000), book, DISCLOSE, USE, BILLION)
        self.asked(shares(t0=1, unknown=9999), book, DISCLOSE, USE, 19999)
        self.asked(shares(t0=1, unknown=9999), book, DISCLOSE, USE, 20000)
        self.asked(shares(unknown=10000), book, DISCLOSE, USE, 20001)

    def test_the_greatest_numbers(self):
        book = new_book(techniques=list(range(10)))
        for device in range(1, 11):
            ask(book, METER, device, 0, BILLION)
            ask(book, ISSUE, device, 0)
        self.asked(shares(**{f"t{technique}": 1000 for technique in range(10)}), book, DISCLOSE, USE, BILLION)
        ask(book, CANCEL, 1, 1, 500000, USE)
        # w: 5 * 10^8 of technique 0, 10^9 of each other; K 500000.
        answer = shares(t0=531, **{f"t{technique}": 1052 for technique in range(1, 10)})
        answer[2] += 1
        self.asked(answer, book, DISCLOSE, USE, BILLION)

    def test_through_the_interface(self):
        rows = ask_all((DISCLOSE, 1, 0), (OPEN, 12, 3), (DISCLOSE, 1, 5), (ACCOUNT,), (DEVICE, 1, 2),
                       (METER, 1, 0, 2000), (ISSUE, 1, 0), (CANCEL_SOME, 1, 2, 2, 1), (DISCLOSE, 1, 4),
                       (DISCLOSE, 1, BILLION + 1), (DISCLOSE, 0, 4))
        self.assertEqual(rows[0], [-2])
        self.assertEqual(rows[2], shares(unknown=10000))
        self.assertEqual(rows[8:], [shares(t2=5000, unknown=5000), [-1], [-1]])


if __name__ == "__main__":
    unittest.main()
