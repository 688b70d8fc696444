import unittest

from origincert.runs import Run, live_on
from tests.helper import (ACCOUNT, BILLION, DEVICE, ISSUE, METER, MOVE, OPEN, PASS, CallCase, ask, ask_all,
                          checkered_book, give, kept, last_answer, new_book, runs_of)


class OpenTest(CallCase):
    def test_opens_once(self):
        self.assertEqual(ask_all((OPEN, 12, 3), (OPEN, 12, 3), (OPEN, 1, 0)), [[0], [-3], [-3]])

    def test_keeps_life_and_window_and_starts_at_month_0(self):
        book = new_book(accounts=0, techniques=(), life=7, window=2)
        self.assertEqual(kept(book), ((True, 7, 2, 0, 0), [], {}, [], [], 0))

    def test_a_second_open_changes_nothing(self):
        self.refused(-3, new_book(life=7, window=2), OPEN, 12000, 12000)

    def test_range_before_open_already(self):
        self.assertEqual(ask_all((OPEN, 12, 3), (OPEN, 0, 3), (OPEN, 12, -1)), [[0], [-1], [-1]])

    def test_refused_open_leaves_it_closed(self):
        self.assertEqual(ask_all((OPEN, 12001, 0), (ACCOUNT,), (OPEN, 12000, 12000), (ACCOUNT,)),
                         [[-1], [-2], [0], [0, 1]])


class AccountTest(CallCase):
    def test_numbers_in_order_up_to_32(self):
        rows = ask_all((OPEN, 1, 0), *[(ACCOUNT,)] * 34)
        self.assertEqual(rows[1:33], [[0, number] for number in range(1, 33)])
        self.assertEqual(rows[33:], [[-4], [-4]])

    def test_full_changes_nothing(self):
        self.refused(-4, new_book(accounts=32), ACCOUNT)


class DeviceTest(CallCase):
    def test_numbers_in_order_up_to_16(self):
        rows = ask_all((OPEN, 1, 0), (ACCOUNT,), *[(DEVICE, 1, 9)] * 18)
        self.assertEqual(rows[2:18], [[0, number] for number in range(1, 17)])
        self.assertEqual(rows[18:], [[-4], [-4]])

    def test_starts_with_zeros(self):
        book = new_book(accounts=2, techniques=())
        ask(book, DEVICE, 2, 9)
        self.assertEqual(kept(book)[1], [(2, 9, 0, 0, 0)])

    def test_no_such_account(self):
        self.refused(-5, new_book(accounts=2), DEVICE, 3, 0)
        self.assertEqual(last_answer((OPEN, 1, 0), (DEVICE, 1, 0)), [-5])
        self.assertEqual(ask(new_book(accounts=32), DEVICE, 32, 0), [0, 2])

    def test_account_before_full(self):
        book = new_book(accounts=2, techniques=[0] * 16)
        self.refused(-5, book, DEVICE, 3, 0)
        self.refused(-4, book, DEVICE, 2, 0)


class PassTest(CallCase):
    def test_the_new_owner_gets_what_is_issued_next(self):
        book = new_book(accounts=3, techniques=(0, 1))
        give(book, 2, 0, 2)
        self.assertEqual(ask(book, PASS, 2, 3), [0])
        self.assertEqual([device.owner for device in book.devices], [1, 3])
        give(book, 2, 0, 2)
        self.assertEqual(runs_of(book), [(1, 2, 2, 0, 1, 1, 0), (3, 4, 2, 0, 1, 3, 0)])

    def test_to_the_owner(self):
        book = new_book()
        before = kept(book)
        self.assertEqual(ask(book, PASS, 1, 1), [0])
        self.assertEqual(kept(book), before)

    def test_refusals_in_order(self):
        book = new_book(accounts=2, techniques=(0,))
        self.refused(-6, book, PASS, 2, 1)
        self.refused(-5, book, PASS, 1, 3)
        self.refused(-6, book, PASS, 2, 3)


class MeterTest(CallCase):
    def test_balance_grows_by_the_difference(self):
        rows = ask_all((OPEN, 12, 3), (ACCOUNT,), (DEVICE, 1, 0), (METER, 1, 0, 1500), (METER, 1, 0, 1500),
                       (METER, 1, 0, 400), (METER, 1, 0, 10 ** 9), (METER, 1, 0, 0))
        self.assertEqual(rows[3:], [[0, 1500], [0, 1500], [0, 400], [0, 10 ** 9], [0, 0]])

    def test_correction_after_issue_is_a_debt(self):
        rows = ask_all((OPEN, 12, 3), (ACCOUNT,), (DEVICE, 1, 0), (METER, 1, 0, 5999), (ISSUE, 1, 0),
                       (METER, 1, 0, 2000), (METER, 1, 0, 5999), (METER, 1, 0, 0))
        self.assertEqual(rows[3:], [[0, 5999], [0, 5, 1], [0, -3000], [0, 999], [0, -5000]])

    def test_each_device_and_month_has_its_own_total(self):
        book = new_book(techniques=(0, 0), now=2)
        self.assertEqual(ask(book, METER, 1, 1, 100), [0, 100])
        self.assertEqual(ask(book, METER, 1, 2, 30), [0, 130])
        self.assertEqual(ask(book, METER, 2, 1, 7), [0, 7])
        self.assertEqual(ask(book, METER, 1, 1, 50), [0, 80])
        self.assertEqual(book.totals, {(1, 1): 50, (1, 2): 30, (2, 1): 7})
        self.assertEqual([device.balance for device in book.devices], [80, 7])

    def test_month_against_now(self):
        book = new_book(now=10, window=3)
        for month, answer in ((11, [-9]), (10, [0, 5]), (7, [0, 10]), (6, [-9]), (0, [-9]), (12000, [-9])):
            self.assertEqual(ask(book, METER, 1, month, 5), answer, month)

    def test_window_0_is_now_alone(self):
        book = new_book(now=10, window=0)
        for month, answer in ((11, [-9]), (9, [-9]), (10, [0, 5])):
            self.assertEqual(ask(book, METER, 1, month, 5), answer, month)

    def test_widest_window(self):
        book = new_book(now=12000, window=12000)
        self.assertEqual(ask(book, METER, 1, 0, 5), [0, 5])
        book = new_book(now=12000, window=11999)
        self.assertEqual(ask(book, METER, 1, 0, 5), [-9])
        self.assertEqual(ask(book, METER, 1, 1, 5), [0, 5])

    def test_at_first_month_0_alone(self):
        self.assertEqual(ask_all((OPEN, 12, 3), (ACCOUNT,), (DEVICE, 1, 0), (METER, 1, 1, 9), (METER, 1, 0, 9))[3:],
                         [[-9], [0, 9]])

    def full_of_totals(self):
        """256 pairs told, the last of them with a total of 0."""
        book = new_book(techniques=[0] * 16, now=20, window=20)
        pairs = [(device, month) for device in range(1, 17) for month in range(16)]
        for device, month in pairs:
            total = 0 if (device, month) == (16, 15) else 5
            self.assertEqual(ask(book, METER, device, month, total)[0], 0)
        return book

    def test_256_pairs(self):
        book = self.full_of_totals()
        self.assertEqual(len(book.totals), 256)
        self.refused(-4, book, METER, 1, 16, 5)
        self.refused(-4, book, METER, 16, 16, 0)
        self.assertEqual(ask(book, METER, 1, 0, 8), [0, 83])
        self.assertEqual(ask(book, METER, 16, 15, 1000), [0, 1075])
        self.refused(-4, book, METER, 16, 16, 0)

    def test_a_total_of_0_is_told_and_takes_a_place(self):
        book = self.full_of_totals()
        for device in range(1, 17):
            for month in range(16):
                ask(book, METER, device, month, 0)
        self.refused(-4, book, METER, 1, 16, 5)

    def test_refusals_in_order(self):
        book = new_book(now=1, window=0)
        self.refused(-6, book, METER, 2, 1, 5)
        self.refused(-9, book, METER, 1, 0, 5)
        self.refused(-6, book, METER, 2, 2, 5)
        full = self.full_of_totals()
        self.refused(-9, full, METER, 1, 21, 5)


class IssueTest(CallCase):
    def test_gives_the_next_numbers_to_the_owner(self):
        book = new_book(techniques=(0, 1))
        ask(book, METER, 1, 0, 3999)
        self.assertEqual(ask(book, ISSUE, 1, 0), [0, 3, 1])
        ask(book, PASS, 2, 2)
        ask(book, METER, 2, 0, 2000)
        self.assertEqual(ask(book, ISSUE, 2, 0), [0, 2, 4])
        self.assertEqual(runs_of(book), [(1, 3, 1, 0, 1, 1, 0), (4, 5, 2, 0, 1, 2, 0)])
        self.assertEqual(kept(book)[1], [(1, 0, 3, 0, 999), (2, 1, 2, 0, 0)])

    def test_balance_edges(self):
        for total, answer, balance in ((0, [0, 0, 0], 0), (999, [0, 0, 0], 999), (1000, [0, 1, 1], 0),
                                       (1999, [0, 1, 1], 999), (2000, [0, 2, 1], 0), (10 ** 9, [0, 10 ** 6, 1], 0)):
            book = new_book()
            ask(book, METER, 1, 0, total)
            self.assertEqual(ask(book, ISSUE, 1, 0), answer)
            self.assertEqual(book.devices[0].balance, balance)

    def test_nothing_happens_at_a_debt(self):
        for balance in (-1, -999, -1000, -1001, -10 ** 9):
            book = new_book()
            book.devices[0].balance = balance
            before = kept(book)
            self.assertEqual(ask(book, ISSUE, 1, 0), [0, 0, 0])
            self.assertEqual(kept(book), before)

    def test_the_debt_is_paid_first(self):
        rows = ask_all((OPEN, 12, 3), (ACCOUNT,), (DEVICE, 1, 0), (METER, 1, 0, 5000), (ISSUE, 1, 0),
                       (METER, 1, 0, 4500), (ISSUE, 1, 0), (METER, 1, 0, 6499), (ISSUE, 1, 0), (ISSUE, 1, 0))
        self.assertEqual(rows[4:], [[0, 5, 1], [0, -500], [0, 0, 0], [0, 1499], [0, 1, 6], [0, 0, 0]])

    def test_balance_of_all_months_under_one_label(self):
        book = new_book(now=2)
        ask(book, METER, 1, 0, 600)
        ask(book, METER, 1, 1, 600)
        self.assertEqual(ask(book, ISSUE, 1, 2), [0, 1, 1])
        self.assertEqual(runs_of(book), [(1, 1, 1, 2, 1, 1, 0)])
        self.assertEqual(book.devices[0].balance, 200)

    def test_month_against_now(self):
        for now, life, month, answer in ((10, 3, 11, [-9]), (10, 3, 10, [0, 1, 1]), (10, 3, 8, [0, 1, 1]),
                                         (10, 3, 7, [-9]), (10, 3, 0, [-9]), (10, 1, 10, [0, 1, 1]),
                                         (10, 1, 9, [-9]), (12000, 12000, 0, [-9]), (12000, 12000, 1, [0, 1, 1]),
                                         (0, 1, 0, [0, 1, 1]), (0, 1, 1, [-9])):
            book = new_book(now=now, life=life)
            book.devices[0].balance = 1000
            self.assertEqual(ask(book, ISSUE, 1, month), answer, (now, life, month))

    def test_the_same_label_and_owner_are_one_run(self):
        book = new_book(techniques=(0, 0), now=1)
        give(book, 1, 0, 2)
        give(book, 1, 0, 3)
        self.assertEqual(runs_of(book), [(1, 5, 1, 0, 1, 1, 0)])
        give(book, 1, 1, 1)
        give(book, 2, 1, 1)
        give(book, 1, 1, 1)
        self.assertEqual(runs_of(book)[1:],
                         [(6, 6, 1, 1, 1, 1, 0), (7, 7, 2, 1, 1, 1, 0), (8, 8, 1, 1, 1, 1, 0)])

    def test_another_state_in_between_is_another_run(self):
        book = new_book()
        give(book, 1, 0, 2)
        ask(book, MOVE, 1, 2, 2, 2)
        give(book, 1, 0, 2)
        self.assertEqual(runs_of(book), [(1, 1, 1, 0, 1, 1, 0), (2, 2, 1, 0, 1, 2, 0), (3, 4, 1, 0, 1, 1, 0)])

    def test_256_runs(self):
        book = checkered_book(255, techniques=(0, 0))
        give(book, 2, 0, 1)
        self.assertEqual(len(book.runs), 256)
        book.devices[0].balance = 1000
        self.refused(-4, book, ISSUE, 1, 0)
        # What lengthens the last run makes no further one.
        give(book, 2, 0, 5)
        self.assertEqual(len(book.runs), 256)
        self.assertEqual(runs_of(book)[-1], (601, 606, 2, 0, 1, 1, 0))

    def book_with_given(self, given):
        book = new_book()
        book.runs = [Run(1, given, 1, 0, live_on(1))]
        return book

    def test_a_billion_numbers(self):
        book = self.book_with_given(BILLION - 3)
        book.devices[0].balance = 4000
        self.refused(-4, book, ISSUE, 1, 0)
        book.devices[0].balance = 3999
        self.assertEqual(ask(book, ISSUE, 1, 0), [0, 3, BILLION - 2])
        self.assertEqual(runs_of(book), [(1, BILLION, 1, 0, 1, 1, 0)])
        self.assertEqual(ask(book, ISSUE, 1, 0), [0, 0, 0])
        book.devices[0].balance = 1000
        self.refused(-4, book, ISSUE, 1, 0)

    def test_refusals_in_order(self):
        book = new_book(now=1)
        self.refused(-6, book, ISSUE, 2, 1)
        self.refused(-6, book, ISSUE, 2, 2)
        # A wrong month is refused before a balance of 0 answers 0.
        self.refused(-9, book, ISSUE, 1, 2)
        full = self.book_with_given(BILLION)
        full.devices[0].balance = 1000
        self.refused(-9, full, ISSUE, 1, 1)
        full.devices[0].balance = 999
        self.assertEqual(ask(full, ISSUE, 1, 0), [0, 0, 0])


if __name__ == "__main__":
    unittest.main()
