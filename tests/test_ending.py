import unittest

from origincert.runs import Run, live_on
from tests.helper import (ACCEPT, ACCOUNT, ANY, BILLION, CANCEL, CANCEL_SOME, DECLINE, DEVICE, INFO, ISSUE, METER, MOVE,
                          MOVE_SOME, OFFER, OFFERS, OPEN, PASS, SUMS, TICK, WHERE, WITHDRAW, CallCase, ask, ask_all,
                          cancelled, checkered_book, expired, give, kept, live, new_book, offered, runs_of, withdrawn)


class TickTest(CallCase):
    def test_sets_now(self):
        book = new_book()
        before = kept(book)
        self.assertEqual(ask(book, TICK, 5), [0, 0])
        self.assertEqual(book.now, 5)
        self.assertEqual(ask(book, TICK, 12000), [0, 0])
        settings, *others = kept(book)
        self.assertEqual(settings, (True, 12, 3, 12000, 3))
        self.assertEqual(others, list(before[1:]))

    def test_not_after_now(self):
        book = new_book()
        give(book, 1, 0, 3)
        ask(book, OFFER, 1, 2, 1, 1)
        self.refused(-9, book, TICK, 0)
        book = new_book(now=7)
        give(book, 1, 7, 3)
        ask(book, OFFER, 1, 2, 1, 1)
        for month in (0, 6, 7):
            self.refused(-9, book, TICK, month)
        self.assertEqual(ask(book, TICK, 8), [0, 0])
        self.refused(-9, book, TICK, 8)
        self.refused(-9, new_book(now=12000), TICK, 12000)

    def test_the_very_month_where_life_ends(self):
        for month, life, now, count in ((0, 12, 11, 0), (0, 12, 12, 4), (0, 12, 13, 4), (0, 1, 1, 4), (3, 5, 7, 0),
                                        (3, 5, 8, 4), (2, 12000, 12000, 0), (1, 12000, 12000, 0), (0, 12000, 12000, 4),
                                        (0, 12000, 11999, 0)):
            book = new_book(life=life)
            if month > 0:
                ask(book, TICK, month)
            give(book, 1, month, 4)
            self.assertEqual(ask(book, TICK, now), [0, count], (month, life, now))
            kind = expired if count else live
            self.assertEqual(runs_of(book), [kind(1, 4, 1, 1, month)])

    def test_each_month_at_its_own_time(self):
        book = new_book(life=2, now=1)
        give(book, 1, 1, 1)
        give(book, 1, 0, 2)
        ask(book, MOVE, 1, 2, 3, 3)
        self.assertEqual(ask(book, TICK, 2), [0, 2])
        give(book, 1, 2, 4)
        self.assertEqual(runs_of(book), [live(1, 1, 1, 1, 1), expired(2, 2, 1), expired(3, 3, 2),
                                         live(4, 7, 1, 1, 2)])
        self.assertEqual(ask(book, TICK, 3), [0, 1])
        self.assertEqual(ask(book, TICK, 4), [0, 4])
        self.assertEqual(ask(book, TICK, 5), [0, 0])
        self.assertEqual(runs_of(book), [expired(1, 1, 1, 1, 1), expired(2, 2, 1), expired(3, 3, 2),
                                         expired(4, 7, 1, 1, 2)])

    def test_offers_go_though_nothing_is_too_old(self):
        book = new_book()
        give(book, 1, 0, 10)
        ask(book, MOVE, 1, 2, 8, 10)
        ask(book, OFFER, 1, 2, 2, 3)
        ask(book, OFFER, 1, 3, 4, 4)
        ask(book, OFFER, 2, 1, 9, 9)
        self.assertEqual(ask(book, TICK, 1), [0, 0])
        self.assertEqual(runs_of(book), [live(1, 7, 1), live(8, 10, 2)])
        self.assertEqual(kept(book)[4:], ([], 3))
        for offer in (1, 2, 3):
            self.refused(-10, book, ACCEPT, offer)
            self.refused(-10, book, DECLINE, offer)
        self.assertEqual(ask(book, OFFER, 1, 2, 2, 3), [0, 4])

    def test_32_offers_go_at_once(self):
        book = new_book()
        give(book, 1, 0, 33)
        for number in range(1, 33):
            ask(book, OFFER, 1, 2, number, number)
        self.assertEqual(ask(book, TICK, 1), [0, 0])
        self.assertEqual(runs_of(book), [live(1, 33, 1)])
        self.assertEqual(ask(book, OFFER, 1, 2, 33, 33), [0, 33])

    def test_offered_ones_expire_on_who_offered_them(self):
        book = new_book()
        give(book, 1, 0, 6)
        ask(book, OFFER, 1, 2, 2, 3)
        ask(book, MOVE, 1, 3, 5, 6)
        ask(book, OFFER, 3, 1, 6, 6)
        self.assertEqual(ask(book, TICK, 12), [0, 6])
        self.assertEqual(runs_of(book), [expired(1, 4, 1), expired(5, 6, 3)])
        self.assertEqual(kept(book)[4:], ([], 2))

    def test_an_offer_over_what_is_too_old_and_what_is_not(self):
        book = new_book(life=3, now=1)
        give(book, 1, 0, 2)
        give(book, 1, 1, 2)
        ask(book, OFFER, 1, 2, 2, 3)
        self.assertEqual(ask(book, TICK, 3), [0, 2])
        self.assertEqual(runs_of(book), [expired(1, 2, 1), live(3, 4, 1, 1, 1)])

    def test_cancelled_and_withdrawn_ones_stay(self):
        book = new_book()
        give(book, 1, 0, 6)
        ask(book, CANCEL, 1, 2, 3, 9)
        book.devices[0].balance = -500
        self.assertEqual(ask(book, WITHDRAW, 1, 1), [0, 1, 6, 6])
        self.assertEqual(ask(book, TICK, 100), [0, 3])
        self.assertEqual(runs_of(book), [expired(1, 1, 1), cancelled(2, 3, 1, 9), expired(4, 5, 1),
                                         withdrawn(6, 6, 1)])
        self.assertEqual(ask(book, TICK, 101), [0, 0])

    def test_runs_that_become_one(self):
        for month, count, kind in ((4, 0, live), (5, 4, expired)):
            book = new_book(life=5)
            give(book, 1, 0, 4)
            ask(book, OFFER, 1, 2, 2, 2)
            ask(book, OFFER, 1, 3, 3, 3)
            self.assertEqual(len(book.runs), 4)
            self.assertEqual(ask(book, TICK, month), [0, count])
            self.assertEqual(runs_of(book), [kind(1, 4, 1)])

    def test_another_account_device_or_month_stays_another_run(self):
        book = new_book(techniques=(0, 0), life=2, now=1)
        give(book, 1, 0, 2)
        give(book, 2, 0, 1)
        give(book, 2, 1, 1)
        ask(book, MOVE, 1, 2, 2, 2)
        self.assertEqual(ask(book, TICK, 9), [0, 4])
        self.assertEqual(runs_of(book), [expired(1, 1, 1), expired(2, 2, 2), expired(3, 3, 1, 2),
                                         expired(4, 4, 1, 2, 1)])

    def test_expired_ones_are_not_chosen(self):
        book = new_book(life=2, now=1)
        give(book, 1, 0, 3)
        give(book, 1, 1, 2)
        ask(book, TICK, 2)
        self.refused(-8, book, MOVE_SOME, 1, 2, ANY, 3)
        self.refused(-8, book, CANCEL_SOME, 1, 0, 3, 1)
        self.assertEqual(ask(book, MOVE_SOME, 1, 2, ANY, 1), [0, 1, 4, 4])

    def test_at_256_runs(self):
        book = checkered_book(254)
        ask(book, OFFER, 2, 3, 300, 310)
        self.assertEqual(len(book.runs), 256)
        self.assertEqual(ask(book, TICK, 1), [0, 0])
        self.assertEqual(len(book.runs), 254)
        self.assertEqual(ask(book, TICK, 12), [0, 600])
        self.assertEqual(len(book.runs), 254)

    def test_devices_and_totals_stay(self):
        book = new_book(techniques=(0, 4))
        ask(book, METER, 1, 0, 5500)
        ask(book, METER, 2, 0, 70)
        ask(book, ISSUE, 1, 0)
        before = kept(book)
        self.assertEqual(ask(book, TICK, 500), [0, 5])
        self.assertEqual(kept(book)[1:3], before[1:3])

    def test_meter_and_issue_follow_now(self):
        rows = ask_all((OPEN, 4, 3), (ACCOUNT,), (DEVICE, 1, 0), (METER, 1, 1, 9), (TICK, 10), (METER, 1, 11, 9),
                       (METER, 1, 10, 1000), (METER, 1, 7, 2000), (METER, 1, 6, 9), (ISSUE, 1, 11), (ISSUE, 1, 6),
                       (ISSUE, 1, 7), (TICK, 11), (METER, 1, 7, 0), (METER, 1, 11, 1000), (ISSUE, 1, 7),
                       (ISSUE, 1, 8), (SUMS,))
        self.assertEqual(rows[3:], [[-9], [0, 0], [-9], [0, 1000], [0, 3000], [-9], [-9], [-9], [0, 3, 1], [0, 3],
                                    [-9], [0, 1000], [-9], [0, 1, 4], [0, 11, 4, 1, 0, 0, 3, 0, 2]])

    def test_256_pairs_through_the_interface(self):
        meters = [(METER, device, month, month % 2) for device in range(1, 17) for month in range(16)]
        rows = ask_all((OPEN, 12000, 12000), (ACCOUNT,), *[(DEVICE, 1, 0)] * 16, (TICK, 100), *meters,
                       (METER, 1, 16, 0), (METER, 16, 100, 5), (METER, 1, 0, 9), (METER, 16, 15, 0))
        self.assertEqual({row[0] for row in rows[:-4]}, {0})
        self.assertEqual(rows[-4:], [[-4], [-4], [0, 17], [0, 7]])


class WithdrawTest(CallCase):
    def book_with_debt(self, debt, given=10, **settings):
        book = new_book(**settings)
        give(book, 1, 0, given)
        book.devices[0].balance = -debt
        return book

    def test_withdraws_the_greatest(self):
        book = self.book_with_debt(3500)
        self.assertEqual(ask(book, WITHDRAW, 1, 3), [0, 1, 8, 10])
        self.assertEqual(runs_of(book), [live(1, 7, 1), withdrawn(8, 10, 1)])
        self.assertEqual(kept(book)[1], [(1, 0, 10, 3, -500)])
        self.assertEqual(ask(book, WITHDRAW, 1, 1), [0, 1, 7, 7])
        self.assertEqual(runs_of(book), [live(1, 6, 1), withdrawn(7, 10, 1)])
        self.assertEqual(kept(book)[1], [(1, 0, 10, 4, 500)])
        self.refused(-11, book, WITHDRAW, 1, 1)

    def test_bounds_of_the_debt(self):
        for debt, most in ((1, 1), (999, 1), (1000, 1), (1001, 2), (1999, 2), (2000, 2), (2001, 3), (9000, 9),
                           (9001, 10), (10000, 10)):
            self.refused(-11, self.book_with_debt(debt), WITHDRAW, 1, most + 1)
            self.refused(-11, self.book_with_debt(debt), WITHDRAW, 1, BILLION)
            book = self.book_with_debt(debt)
            self.assertEqual(ask(book, WITHDRAW, 1, most), [0, 1, 11 - most, 10], debt)
            self.assertEqual(book.devices[0].balance, 1000 * most - debt)

    def test_no_debt(self):
        for balance in (0, 1, 999, 5000, 10 ** 9):
            book = self.book_with_debt(-balance)
            self.refused(-11, book, WITHDRAW, 1, 1)
            self.refused(-11, book, WITHDRAW, 1, 2)

    def test_too_few(self):
        book = self.book_with_debt(10 ** 6)
        self.refused(-8, book, WITHDRAW, 1, 11)
        self.refused(-8, book, WITHDRAW, 1, 1000)
        self.refused(-11, book, WITHDRAW, 1, 1001)
        self.assertEqual(ask(book, WITHDRAW, 1, 10), [0, 1, 1, 10])
        self.refused(-8, book, WITHDRAW, 1, 1)
        empty = new_book()
        empty.devices[0].balance = -1
        self.refused(-8, empty, WITHDRAW, 1, 1)

    def mixed_book(self):
        """Device 2's live numbers on account 1: 1 to 3, 6 to 8, 11, 15 to 16, in months that aren't in order."""
        book = new_book(techniques=(0, 0), life=5, now=2)
        give(book, 2, 2, 3)
        give(book, 1, 0, 2)
        give(book, 2, 0, 4)
        ask(book, MOVE, 1, 2, 9, 9)
        give(book, 2, 1, 3)
        ask(book, CANCEL, 1, 10, 10, 4)
        ask(book, OFFER, 1, 2, 12, 12)
        give(book, 1, 2, 2)
        give(book, 2, 2, 2)
        book.devices[1].balance = -20000
        return book

    def test_from_the_greatest_run_down(self):
        for count, pairs in ((1, [16, 16]), (2, [15, 16]), (3, [15, 16, 11, 11]), (4, [15, 16, 11, 11, 8, 8]),
                             (5, [15, 16, 11, 11, 7, 8]), (6, [15, 16, 11, 11, 6, 8]),
                             (7, [15, 16, 11, 11, 6, 8, 3, 3]), (9, [15, 16, 11, 11, 6, 8, 1, 3])):
            book = self.mixed_book()
            self.assertEqual(ask(book, WITHDRAW, 2, count), [0, len(pairs) // 2] + pairs)
            self.assertEqual(kept(book)[1][1], (1, 0, 12, count, 1000 * count - 20000))
        self.refused(-8, self.mixed_book(), WITHDRAW, 2, 10)

    def test_only_the_chosen_change(self):
        book = self.mixed_book()
        before = kept(book)
        ask(book, WITHDRAW, 2, 5)
        self.assertEqual(runs_of(book), [
            live(1, 3, 1, 2, 2), live(4, 5, 1), live(6, 6, 1, 2), withdrawn(7, 8, 1, 2), live(9, 9, 2, 2),
            cancelled(10, 10, 1, 4, 2, 1), withdrawn(11, 11, 1, 2, 1), offered(12, 12, 1, 1, 2, 1),
            live(13, 14, 1, 1, 2), withdrawn(15, 16, 1, 2, 2)])
        after = kept(book)
        self.assertEqual((after[0], after[1][0]) + after[4:], (before[0], before[1][0]) + before[4:])
        self.assertEqual(after[2], before[2])

    def test_pairs_follow_the_runs_before(self):
        book = new_book(now=1)
        give(book, 1, 0, 3)
        give(book, 1, 1, 3)
        book.devices[0].balance = -5000
        self.assertEqual(ask(book, WITHDRAW, 1, 5), [0, 2, 4, 6, 2, 3])
        self.assertEqual(runs_of(book), [live(1, 1, 1), withdrawn(2, 3, 1), withdrawn(4, 6, 1, 1, 1)])

    def test_the_owner_changed_by_pass(self):
        book = self.book_with_debt(5000)
        ask(book, MOVE, 1, 2, 3, 4)
        ask(book, MOVE, 1, 3, 10, 10)
        self.assertEqual(ask(book, PASS, 1, 2), [0])
        self.refused(-8, book, WITHDRAW, 1, 3)
        self.assertEqual(ask(book, WITHDRAW, 1, 1), [0, 1, 4, 4])
        self.assertEqual(runs_of(book), [live(1, 2, 1), live(3, 3, 2), withdrawn(4, 4, 2), live(5, 9, 1),
                                         live(10, 10, 3)])
        ask(book, PASS, 1, 3)
        self.assertEqual(ask(book, WITHDRAW, 1, 1), [0, 1, 10, 10])
        ask(book, PASS, 1, 1)
        self.assertEqual(ask(book, WITHDRAW, 1, 1), [0, 1, 9, 9])
        # What was withdrawn from other accounts is another run.
        self.assertEqual(runs_of(book)[-3:], [live(5, 8, 1), withdrawn(9, 9, 1), withdrawn(10, 10, 3)])

    def test_expired_ones_are_not_there(self):
        book = self.book_with_debt(5000, life=2)
        ask(book, TICK, 1)
        give(book, 1, 1, 2)
        book.devices[0].balance = -5000
        ask(book, TICK, 2)
        self.refused(-8, book, WITHDRAW, 1, 3)
        self.assertEqual(ask(book, WITHDRAW, 1, 2), [0, 1, 11, 12])

    def test_withdrawn_ones_are_not_chosen(self):
        book = self.book_with_debt(3000)
        ask(book, WITHDRAW, 1, 3)
        self.refused(-8, book, MOVE_SOME, 1, 2, ANY, 8)
        self.refused(-8, book, CANCEL_SOME, 1, ANY, 8, 1)
        self.assertEqual(ask(book, CANCEL_SOME, 1, ANY, 7, 1), [0, 1, 1, 7])

    def test_256_runs(self):
        # Account 2's last run is 256 to 600; a part of it withdrawn would be a run more.
        book = checkered_book(256)
        book.devices[0].owner = 2
        book.devices[0].balance = -10 ** 6
        self.refused(-4, book, WITHDRAW, 1, 1)
        self.refused(-4, book, WITHDRAW, 1, 344)
        self.refused(-8, book, WITHDRAW, 1, 345 + 128)
        self.refused(-11, book, WITHDRAW, 1, 1001)
        self.assertEqual(ask(book, WITHDRAW, 1, 346), [0, 2, 256, 600, 254, 254])
        self.assertEqual(len(book.runs), 256)
        book = checkered_book(255)
        book.devices[0].balance = -10 ** 6
        self.assertEqual(ask(book, WITHDRAW, 1, 1), [0, 1, 600, 600])
        self.assertEqual(len(book.runs), 256)
        self.assertEqual(ask(book, WITHDRAW, 1, 1), [0, 1, 599, 599])
        self.assertEqual(len(book.runs), 256)

    def test_fewer_runs_behind_it_at_256(self):
        # 1 and 3 lie beside 2, which was withdrawn from account 1 before: with them they are one run.
        book = checkered_book(254)
        book.devices[0].balance = -10 ** 6
        book.runs = [Run(run.first, run.last, 1, 0, (5, 1, 0) if run.first == 2 else run.status) for run in book.runs]
        ask(book, MOVE, 2, 3, 300, 310)
        self.assertEqual(len(book.runs), 256)
        self.assertEqual(ask(book, WITHDRAW, 1, 127)[:2], [0, 127])
        self.assertEqual(runs_of(book)[:2], [withdrawn(1, 3, 1), live(4, 4, 2)])
        self.assertEqual(len(book.runs), 254)

    def test_refusals_in_order(self):
        book = new_book(techniques=(0,))
        self.refused(-6, book, WITHDRAW, 2, 1)
        self.refused(-6, book, WITHDRAW, 16, BILLION)
        self.refused(-11, book, WITHDRAW, 1, 1)

    def test_many(self):
        book = new_book()
        book.runs = [Run(1, BILLION, 1, 0, live_on(1))]
        book.devices[0].balance = -999999999001
        self.assertEqual(ask(book, WITHDRAW, 1, BILLION), [0, 1, 1, BILLION])
        self.assertEqual(kept(book)[1], [(1, 0, 0, BILLION, 999)])

    def test_through_the_interface(self):
        rows = ask_all((OPEN, 12, 3), (ACCOUNT,), (ACCOUNT,), (DEVICE, 1, 3), (METER, 1, 0, 5000), (ISSUE, 1, 0),
                       (METER, 1, 0, 3500), (ISSUE, 1, 0), (MOVE, 1, 2, 5, 5), (WITHDRAW, 1, 3), (WITHDRAW, 1, 2),
                       (INFO, 1), (WITHDRAW, 1, 1), (METER, 1, 0, 4000), (ISSUE, 1, 0), (WHERE, 4), (OFFERS,))
        self.assertEqual(rows[6:], [[0, -1500], [0, 0, 0], [0], [-11], [0, 1, 3, 4], [0, 1, 3, 5, 2, 500], [-11],
                                    [0, 1000], [0, 1, 6], [0, 5, 1, 0, 1, 0], [0, 0]])


if __name__ == "__main__":
    unittest.main()
