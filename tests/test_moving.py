import unittest

from origincert.runs import Run, live_on
from tests.helper import (ACCEPT, ACCOUNT, ANY, BILLION, CANCEL, CANCEL_SOME, DECLINE, DEVICE, ISSUE, METER, MOVE,
                          MOVE_SOME, OFFER, OPEN, TICK, WITHDRAW, CallCase, ask, ask_all, cancelled, checkered_book,
                          give, kept, live, new_book, offered, runs_of)


class StretchCase(CallCase):
    def book_of_ten(self, **settings):
        book = new_book(**settings)
        give(book, 1, 0, 10)
        return book

    def stretch_refusals(self, call):
        """The refusals that move, cancel and offer share; call(account, first, last) makes the call."""
        book = self.book_of_ten()
        ask(book, MOVE, 1, 2, 5, 5)
        for first, last in ((3, 2), (10, 1), (10, 11), (11, 11), (1, 11), (BILLION, BILLION), (1, BILLION),
                            (5, 5), (4, 5), (5, 6), (4, 6), (1, 10)):
            self.refused(-7, book, *call(1, first, last))
        self.refused(-7, book, *call(2, 4, 5))
        self.refused(-7, book, *call(3, 1, 1))
        self.refused(-7, new_book(), *call(1, 1, 1))

    def spent_refusals(self, call):
        """What's offered, cancelled, expired or withdrawn is no longer there to be moved, cancelled or offered."""
        book = new_book(techniques=(0, 1))
        give(book, 1, 0, 3)
        ask(book, MOVE, 1, 2, 2, 2)
        self.assertEqual(ask(book, TICK, 12), [0, 3])
        give(book, 2, 12, 10)
        book.devices[1].balance = -1
        self.assertEqual(ask(book, WITHDRAW, 2, 1), [0, 1, 13, 13])
        ask(book, OFFER, 1, 1, 5, 5)
        ask(book, CANCEL, 1, 7, 7, 1)
        self.refused(-7, book, *call(2, 2, 2))
        self.refused(-7, book, *call(1, 12, 13))
        for number in (1, 3, 5, 7, 13):
            self.refused(-7, book, *call(1, number, number))
            self.refused(-7, book, *call(1, 4, number))

    def stretch_at_256_runs(self, call):
        """At 256 runs a cut is refused; what makes no further run is not looked at askance."""
        book = checkered_book(255)
        self.refused(-4, book, *call(1, 256, 599))
        self.assertEqual(ask(book, *call(1, 256, 600))[0], 0)
        self.assertEqual(len(book.runs), 256)
        book = checkered_book(256)
        self.refused(-4, book, *call(2, 256, 599))
        self.refused(-4, book, *call(2, 257, 600))
        self.assertEqual(ask(book, *call(2, 256, 600))[0], 0)
        book = checkered_book(256)
        self.assertEqual(ask(book, *call(1, 3, 3))[0], 0)


class MoveTest(StretchCase):
    def test_moves_a_stretch(self):
        book = self.book_of_ten()
        self.assertEqual(ask(book, MOVE, 1, 2, 3, 6), [0])
        self.assertEqual(runs_of(book), [live(1, 2, 1), live(3, 6, 2), live(7, 10, 1)])

    def test_first_last_all_and_one(self):
        for first, last, runs in ((1, 1, [live(1, 1, 2), live(2, 10, 1)]), (10, 10, [live(1, 9, 1), live(10, 10, 2)]),
                                  (1, 10, [live(1, 10, 2)]), (5, 5, [live(1, 4, 1), live(5, 5, 2), live(6, 10, 1)])):
            book = self.book_of_ten()
            self.assertEqual(ask(book, MOVE, 1, 2, first, last), [0])
            self.assertEqual(runs_of(book), runs)

    def test_over_several_runs(self):
        book = new_book(techniques=(0, 1), now=1)
        give(book, 1, 0, 3)
        give(book, 2, 0, 3)
        give(book, 2, 1, 3)
        self.assertEqual(ask(book, MOVE, 1, 3, 2, 8), [0])
        self.assertEqual(runs_of(book), [live(1, 1, 1), live(2, 3, 3), live(4, 6, 3, 2), live(7, 8, 3, 2, 1),
                                         live(9, 9, 1, 2, 1)])

    def test_neighbours_that_become_the_same_are_one_run(self):
        book = self.book_of_ten()
        ask(book, MOVE, 1, 2, 4, 6)
        ask(book, MOVE, 1, 2, 7, 8)
        self.assertEqual(runs_of(book), [live(1, 3, 1), live(4, 8, 2), live(9, 10, 1)])
        ask(book, MOVE, 1, 2, 3, 3)
        self.assertEqual(runs_of(book), [live(1, 2, 1), live(3, 8, 2), live(9, 10, 1)])
        ask(book, MOVE, 2, 1, 3, 8)
        self.assertEqual(runs_of(book), [live(1, 10, 1)])

    def test_another_device_or_month_keeps_them_apart(self):
        book = new_book(techniques=(0, 0), now=1)
        give(book, 1, 0, 1)
        give(book, 2, 0, 1)
        give(book, 2, 1, 1)
        ask(book, MOVE, 1, 2, 1, 3)
        self.assertEqual(runs_of(book), [live(1, 1, 2), live(2, 2, 2, 2), live(3, 3, 2, 2, 1)])

    def test_to_itself_changes_nothing(self):
        book = self.book_of_ten()
        before = kept(book)
        self.assertEqual(ask(book, MOVE, 1, 1, 3, 6), [0])
        self.assertEqual(kept(book), before)

    def test_to_itself_at_256_runs(self):
        book = checkered_book(256)
        self.assertEqual(ask(book, MOVE, 2, 2, 300, 310), [0])
        self.assertEqual(len(book.runs), 256)

    def test_through_the_interface(self):
        rows = ask_all((OPEN, 12, 3), (ACCOUNT,), (ACCOUNT,), (DEVICE, 1, 0), (METER, 1, 0, 3000), (ISSUE, 1, 0),
                       (MOVE, 1, 2, 2, 3), (MOVE, 1, 2, 2, 3), (MOVE, 2, 1, 3, 3), (MOVE, 1, 2, 3, 3))
        self.assertEqual(rows[6:], [[0], [-7], [0], [0]])

    def test_refusals(self):
        self.stretch_refusals(lambda account, first, last: (MOVE, account, 2, first, last))
        self.spent_refusals(lambda account, first, last: (MOVE, account, 2, first, last))

    def test_no_such_account_comes_first(self):
        book = self.book_of_ten(accounts=2)
        self.refused(-5, book, MOVE, 3, 1, 1, 1)
        self.refused(-5, book, MOVE, 1, 3, 1, 1)
        self.refused(-5, book, MOVE, 3, 1, 2, 1)
        self.refused(-5, book, MOVE, 1, 3, 11, 11)

    def test_256_runs(self):
        self.stretch_at_256_runs(lambda account, first, last: (MOVE, account, 3, first, last))

    def test_numbers_before_full(self):
        self.refused(-7, checkered_book(256), MOVE, 2, 3, 300, 601)

    def test_the_billionth_number(self):
        book = new_book()
        book.runs = [Run(1, BILLION, 1, 0, live_on(1))]
        self.assertEqual(ask(book, MOVE, 1, 2, BILLION, BILLION), [0])
        self.assertEqual(runs_of(book), [live(1, BILLION - 1, 1), live(BILLION, BILLION, 2)])


def mixed_book():
    """Runs of several months and techniques: the months not in order, one number on account 2 and one offered."""
    book = new_book(accounts=3, techniques=(5, 7), now=3)
    give(book, 1, 2, 4)
    give(book, 2, 1, 3)
    give(book, 1, 1, 3)
    give(book, 2, 2, 2)
    give(book, 1, 0, 2)
    ask(book, MOVE, 1, 2, 6, 6)
    ask(book, OFFER, 1, 2, 13, 13)
    return book


class SomeCase(StretchCase):
    """What moveSome and cancelSome share; a class below says how each is called."""

    def some(self, account, choice, count):
        raise NotImplementedError

    def changed(self, first, last, account, device=1, month=0):
        raise NotImplementedError

    def check_order(self):
        for choice, count, pairs in (
                (ANY, 1, [14, 14]), (ANY, 2, [14, 14, 5, 5]), (ANY, 3, [14, 14, 5, 5, 7, 7]),
                (ANY, 5, [14, 14, 5, 5, 7, 7, 8, 9]), (ANY, 6, [14, 14, 5, 5, 7, 7, 8, 10]),
                (ANY, 8, [14, 14, 5, 5, 7, 7, 8, 10, 1, 2]),
                (ANY, 12, [14, 14, 5, 5, 7, 7, 8, 10, 1, 4, 11, 12]),
                (5, 1, [14, 14]), (5, 5, [14, 14, 8, 10, 1, 1]), (5, 8, [14, 14, 8, 10, 1, 4]),
                (7, 1, [5, 5]), (7, 3, [5, 5, 7, 7, 11, 11]), (7, 4, [5, 5, 7, 7, 11, 12])):
            book = mixed_book()
            self.assertEqual(ask(book, *self.some(1, choice, count)), [0, len(pairs) // 2] + pairs)

    def check_too_few(self):
        for choice, count in ((ANY, 13), (ANY, BILLION), (5, 9), (7, 5), (0, 1), (9, 1)):
            self.refused(-8, mixed_book(), *self.some(1, choice, count))
        self.refused(-8, mixed_book(), *self.some(3, ANY, 1))
        self.refused(-8, mixed_book(), *self.some(2, ANY, 2))
        self.refused(-8, new_book(), *self.some(1, ANY, 1))

    def check_state_behind_it(self):
        book = self.book_of_ten()
        self.assertEqual(ask(book, *self.some(1, 0, 4)), [0, 1, 1, 4])
        self.assertEqual(runs_of(book), [self.changed(1, 4, 1), live(5, 10, 1)])
        self.assertEqual(ask(book, *self.some(1, ANY, 2)), [0, 1, 5, 6])
        self.assertEqual(runs_of(book), [self.changed(1, 6, 1), live(7, 10, 1)])
        self.assertEqual(ask(book, *self.some(1, ANY, 4)), [0, 1, 7, 10])
        self.assertEqual(runs_of(book), [self.changed(1, 10, 1)])

    def check_runs_as_before(self):
        """Pairs follow the runs before the call, though the numbers lie side by side."""
        book = new_book(techniques=(0, 0))
        give(book, 1, 0, 2)
        give(book, 2, 0, 2)
        self.assertEqual(ask(book, *self.some(1, ANY, 3)), [0, 2, 1, 2, 3, 3])
        self.assertEqual(runs_of(book), [self.changed(1, 2, 1), self.changed(3, 3, 1, 2), live(4, 4, 1, 2)])

    def check_256_runs(self):
        # On account 2 are 2, 4, .. 254, 256 to 600; the last of these is cut when some of it are left.
        book = checkered_book(256)
        self.refused(-4, book, *self.some(2, ANY, 128))
        self.refused(-8, book, *self.some(2, ANY, 128 + 345))
        self.assertEqual(ask(book, *self.some(2, ANY, 127))[:4], [0, 127, 2, 2])
        self.assertEqual(len(book.runs), 256)
        book = checkered_book(256)
        answer = ask(book, *self.some(2, ANY, 127 + 345))
        self.assertEqual(answer[:2] + answer[-2:], [0, 128, 256, 600])
        book = checkered_book(255)
        self.assertEqual(ask(book, *self.some(1, ANY, 128))[:2], [0, 128])
        self.assertEqual(len(book.runs), 256)


class MoveSomeTest(SomeCase):
    def some(self, account, choice, count):
        return (MOVE_SOME, account, 3 if account != 3 else 1, choice, count)

    def changed(self, first, last, account, device=1, month=0):
        return live(first, last, 3, device, month)

    def test_what_it_shares(self):
        self.check_order()
        self.check_too_few()
        self.check_state_behind_it()
        self.check_runs_as_before()
        self.check_256_runs()

    def test_only_the_chosen_move(self):
        book = mixed_book()
        before = runs_of(book)
        ask(book, MOVE_SOME, 1, 3, 5, 5)
        self.assertEqual(runs_of(book), [live(1, 1, 3, 1, 2), live(2, 4, 1, 1, 2)] + before[1:4]
                         + [live(8, 10, 3, 1, 1)] + before[5:7] + [live(14, 14, 3, 1, 0)])

    def test_joins_what_lies_on_the_other_account(self):
        book = self.book_of_ten()
        ask(book, MOVE, 1, 2, 3, 4)
        self.assertEqual(ask(book, MOVE_SOME, 1, 2, ANY, 5), [0, 2, 1, 2, 5, 7])
        self.assertEqual(runs_of(book), [live(1, 7, 2), live(8, 10, 1)])

    def test_to_itself(self):
        book = mixed_book()
        before = kept(book)
        self.assertEqual(ask(book, MOVE_SOME, 1, 1, ANY, 2), [0, 2, 14, 14, 5, 5])
        self.assertEqual(kept(book), before)

    def test_fewer_runs_behind_it_than_256(self):
        # Account 1's single numbers join account 2's, so that a cut in the last of them does no harm.
        book = checkered_book(255)
        self.assertEqual(ask(book, MOVE_SOME, 1, 2, ANY, 200)[:2], [0, 128])
        self.assertEqual(runs_of(book), [live(1, 327, 2), live(328, 600, 1)])

    def test_no_such_account_comes_first(self):
        book = self.book_of_ten(accounts=2)
        self.refused(-5, book, MOVE_SOME, 3, 1, ANY, 1)
        self.refused(-5, book, MOVE_SOME, 1, 3, ANY, 1)
        self.refused(-5, book, MOVE_SOME, 1, 3, ANY, 11)
        self.refused(-5, book, MOVE_SOME, 3, 3, 9, 11)

    def test_through_the_interface(self):
        rows = ask_all((OPEN, 12, 3), (ACCOUNT,), (ACCOUNT,), (DEVICE, 1, 3), (METER, 1, 0, 3000), (ISSUE, 1, 0),
                       (MOVE_SOME, 1, 2, 3, 2), (MOVE_SOME, 1, 2, 4, 1), (MOVE_SOME, 1, 2, ANY, 2),
                       (MOVE_SOME, 2, 1, ANY, 1))
        self.assertEqual(rows[6:], [[0, 1, 1, 2], [-8], [-8], [0, 1, 1, 1]])


class CancelTest(StretchCase):
    def test_cancels_a_stretch(self):
        book = self.book_of_ten()
        self.assertEqual(ask(book, CANCEL, 1, 3, 6, 77), [0])
        self.assertEqual(runs_of(book), [live(1, 2, 1), (3, 6, 1, 0, 3, 1, 77), live(7, 10, 1)])

    def test_the_same_use_and_account_are_one_run(self):
        book = self.book_of_ten()
        for number, use in ((1, 7), (3, 7), (2, 7), (4, 8)):
            self.assertEqual(ask(book, CANCEL, 1, number, number, use), [0])
        ask(book, MOVE, 1, 2, 5, 5)
        self.assertEqual(ask(book, CANCEL, 2, 5, 5, 8), [0])
        self.assertEqual(runs_of(book), [(1, 3, 1, 0, 3, 1, 7), (4, 4, 1, 0, 3, 1, 8), (5, 5, 1, 0, 3, 2, 8),
                                         live(6, 10, 1)])

    def test_refusals(self):
        self.stretch_refusals(lambda account, first, last: (CANCEL, account, first, last, 7))
        self.spent_refusals(lambda account, first, last: (CANCEL, account, first, last, 1))

    def test_no_such_account_comes_first(self):
        book = self.book_of_ten(accounts=2)
        self.refused(-5, book, CANCEL, 3, 1, 1, 7)
        self.refused(-5, book, CANCEL, 3, 2, 1, 7)

    def test_256_runs(self):
        self.stretch_at_256_runs(lambda account, first, last: (CANCEL, account, first, last, 7))

    def test_numbers_before_full(self):
        self.refused(-7, checkered_book(256), CANCEL, 2, 300, 601, 7)

    def test_through_the_interface(self):
        rows = ask_all((OPEN, 12, 3), (ACCOUNT,), (DEVICE, 1, 0), (METER, 1, 0, 3000), (ISSUE, 1, 0),
                       (CANCEL, 1, 2, 3, 1), (CANCEL, 1, 3, 3, 1000000), (CANCEL, 1, 1, 1, 1000000), (MOVE, 1, 1, 1, 1))
        self.assertEqual(rows[5:], [[0], [-7], [0], [-7]])


class CancelSomeTest(SomeCase):
    def some(self, account, choice, count):
        return (CANCEL_SOME, account, choice, count, 77)

    def changed(self, first, last, account, device=1, month=0):
        return (first, last, device, month, 3, account, 77)

    def test_what_it_shares(self):
        self.check_order()
        self.check_too_few()
        self.check_state_behind_it()
        self.check_runs_as_before()
        self.check_256_runs()

    def test_no_such_account_comes_first(self):
        book = self.book_of_ten(accounts=2)
        self.refused(-5, book, CANCEL_SOME, 3, ANY, 1, 7)
        self.refused(-5, book, CANCEL_SOME, 3, ANY, 11, 7)

    def test_through_the_interface(self):
        rows = ask_all((OPEN, 12, 3), (ACCOUNT,), (DEVICE, 1, 3), (METER, 1, 0, 3000), (ISSUE, 1, 0),
                       (CANCEL_SOME, 1, 3, 2, 9), (CANCEL_SOME, 1, ANY, 2, 9), (CANCEL_SOME, 1, ANY, 1, 9),
                       (CANCEL_SOME, 1, ANY, 1, 9))
        self.assertEqual(rows[5:], [[0, 1, 1, 2], [-8], [0, 1, 3, 3], [-8]])


class OfferTest(StretchCase):
    def test_offers_a_stretch(self):
        book = self.book_of_ten()
        self.assertEqual(ask(book, OFFER, 1, 2, 3, 6), [0, 1])
        self.assertEqual(runs_of(book), [live(1, 2, 1), (3, 6, 1, 0, 2, 1, 1), live(7, 10, 1)])
        self.assertEqual(kept(book)[4:], ([(1, 1, 2, 3, 6)], 1))

    def test_each_offer_is_a_run_of_its_own(self):
        book = self.book_of_ten()
        self.assertEqual([ask(book, OFFER, 1, 2, number, number) for number in (2, 1)], [[0, 1], [0, 2]])
        self.assertEqual(runs_of(book), [(1, 1, 1, 0, 2, 1, 2), (2, 2, 1, 0, 2, 1, 1), live(3, 10, 1)])

    def test_over_several_runs(self):
        book = new_book(techniques=(0, 1))
        give(book, 1, 0, 2)
        give(book, 2, 0, 2)
        self.assertEqual(ask(book, OFFER, 1, 3, 2, 3), [0, 1])
        self.assertEqual(runs_of(book), [live(1, 1, 1), (2, 2, 1, 0, 2, 1, 1), (3, 3, 2, 0, 2, 1, 1),
                                         live(4, 4, 1, 2)])

    def test_to_itself(self):
        book = self.book_of_ten()
        self.assertEqual(ask(book, OFFER, 1, 1, 1, 10), [0, 1])
        self.assertEqual(runs_of(book), [(1, 10, 1, 0, 2, 1, 1)])

    def test_refusals(self):
        self.stretch_refusals(lambda account, first, last: (OFFER, account, 2, first, last))
        self.spent_refusals(lambda account, first, last: (OFFER, account, 2, first, last))

    def test_no_such_account_comes_first(self):
        book = self.book_of_ten(accounts=2)
        self.refused(-5, book, OFFER, 3, 1, 1, 1)
        self.refused(-5, book, OFFER, 1, 3, 1, 1)
        self.refused(-5, book, OFFER, 1, 3, 2, 1)

    def test_256_runs(self):
        self.stretch_at_256_runs(lambda account, first, last: (OFFER, account, 3, first, last))

    def test_to_itself_at_256_runs_is_a_run_more(self):
        self.refused(-4, checkered_book(256), OFFER, 2, 2, 256, 599)

    def test_32_offers_at_once(self):
        book = new_book()
        give(book, 1, 0, 40)
        for number in range(1, 33):
            self.assertEqual(ask(book, OFFER, 1, 2, number, number), [0, number])
        self.refused(-4, book, OFFER, 1, 2, 33, 33)
        self.refused(-7, book, OFFER, 1, 2, 32, 33)
        self.refused(-5, book, OFFER, 1, 4, 33, 33)
        self.assertEqual(ask(book, ACCEPT, 5), [0])
        self.assertEqual(ask(book, OFFER, 1, 2, 33, 33), [0, 33])
        self.refused(-4, book, OFFER, 1, 2, 34, 34)

    def test_a_billion_offers_made(self):
        book = self.book_of_ten()
        book.offers_made = BILLION - 1
        self.assertEqual(ask(book, OFFER, 1, 2, 1, 1), [0, BILLION])
        self.refused(-4, book, OFFER, 1, 2, 2, 2)
        self.refused(-7, book, OFFER, 1, 2, 1, 1)
        self.assertEqual(ask(book, ACCEPT, BILLION), [0])
        self.refused(-4, book, OFFER, 1, 2, 2, 2)


class AcceptTest(StretchCase):
    def test_numbers_pass_to_the_other_account(self):
        book = self.book_of_ten()
        ask(book, OFFER, 1, 2, 3, 6)
        self.assertEqual(ask(book, ACCEPT, 1), [0])
        self.assertEqual(runs_of(book), [live(1, 2, 1), live(3, 6, 2), live(7, 10, 1)])
        self.assertEqual(kept(book)[4:], ([], 1))

    def test_only_this_offer_goes(self):
        book = self.book_of_ten()
        ask(book, OFFER, 1, 2, 3, 3)
        ask(book, OFFER, 1, 3, 4, 5)
        self.assertEqual(ask(book, ACCEPT, 2), [0])
        self.assertEqual(runs_of(book), [live(1, 2, 1), (3, 3, 1, 0, 2, 1, 1), live(4, 5, 3), live(6, 10, 1)])
        self.assertEqual(kept(book)[4:], ([(1, 1, 2, 3, 3)], 2))

    def test_joins_its_neighbours(self):
        book = self.book_of_ten()
        ask(book, MOVE, 1, 2, 1, 2)
        ask(book, OFFER, 1, 2, 3, 6)
        ask(book, OFFER, 1, 1, 7, 7)
        ask(book, ACCEPT, 1)
        ask(book, ACCEPT, 2)
        self.assertEqual(runs_of(book), [live(1, 6, 2), live(7, 10, 1)])

    def test_over_several_runs(self):
        book = new_book(techniques=(0, 1))
        give(book, 1, 0, 2)
        give(book, 2, 0, 2)
        ask(book, OFFER, 1, 3, 2, 3)
        self.assertEqual(ask(book, ACCEPT, 1), [0])
        self.assertEqual(runs_of(book), [live(1, 1, 1), live(2, 2, 3), live(3, 3, 3, 2), live(4, 4, 1, 2)])

    def test_at_256_runs(self):
        book = checkered_book(254)
        self.assertEqual(ask(book, OFFER, 2, 3, 300, 310), [0, 1])
        self.assertEqual(len(book.runs), 256)
        self.assertEqual(ask(book, ACCEPT, 1), [0])
        self.assertEqual(len(book.runs), 256)

    def test_no_such_offer(self):
        book = self.book_of_ten()
        self.refused(-10, book, ACCEPT, 1)
        self.refused(-10, book, ACCEPT, BILLION)
        ask(book, OFFER, 1, 2, 1, 1)
        self.refused(-10, book, ACCEPT, 2)
        ask(book, ACCEPT, 1)
        self.refused(-10, book, ACCEPT, 1)

    def test_numbers_of_offers_are_not_given_again(self):
        rows = ask_all((OPEN, 12, 3), (ACCOUNT,), (ACCOUNT,), (DEVICE, 1, 0), (METER, 1, 0, 3000), (ISSUE, 1, 0),
                       (OFFER, 1, 2, 1, 1), (ACCEPT, 1), (OFFER, 2, 1, 1, 1), (ACCEPT, 1), (ACCEPT, 2), (ACCEPT, 2),
                       (MOVE, 1, 2, 1, 3))
        self.assertEqual(rows[6:], [[0, 1], [0], [0, 2], [-10], [0], [-10], [0]])


class DeclineTest(StretchCase):
    def test_numbers_go_back_to_who_offered_them(self):
        book = self.book_of_ten()
        before = runs_of(book)
        ask(book, OFFER, 1, 2, 3, 6)
        self.assertEqual(ask(book, DECLINE, 1), [0])
        self.assertEqual(runs_of(book), before)
        self.assertEqual(kept(book)[4:], ([], 1))

    def test_only_this_offer_goes(self):
        book = self.book_of_ten()
        ask(book, OFFER, 1, 2, 3, 3)
        ask(book, OFFER, 1, 3, 4, 5)
        ask(book, OFFER, 1, 2, 6, 7)
        self.assertEqual(ask(book, DECLINE, 2), [0])
        self.assertEqual(runs_of(book), [live(1, 2, 1), offered(3, 3, 1, 1), live(4, 5, 1), offered(6, 7, 1, 3),
                                         live(8, 10, 1)])
        self.assertEqual(kept(book)[4:], ([(1, 1, 2, 3, 3), (3, 1, 2, 6, 7)], 3))

    def test_over_several_runs(self):
        book = new_book(techniques=(0, 1))
        give(book, 1, 0, 2)
        give(book, 2, 0, 2)
        ask(book, MOVE, 1, 2, 1, 4)
        ask(book, OFFER, 2, 3, 2, 3)
        self.assertEqual(runs_of(book), [live(1, 1, 2), offered(2, 2, 2, 1), offered(3, 3, 2, 1, 2), live(4, 4, 2, 2)])
        self.assertEqual(ask(book, DECLINE, 1), [0])
        self.assertEqual(runs_of(book), [live(1, 2, 2), live(3, 4, 2, 2)])

    def test_an_owner_changed_since_does_not_matter(self):
        book = self.book_of_ten()
        ask(book, CANCEL, 1, 2, 2, 9)
        ask(book, OFFER, 1, 2, 1, 1)
        book.devices[0].owner = 3
        self.assertEqual(ask(book, DECLINE, 1), [0])
        self.assertEqual(runs_of(book), [live(1, 1, 1), cancelled(2, 2, 1, 9), live(3, 10, 1)])

    def test_at_256_runs(self):
        book = checkered_book(254)
        ask(book, OFFER, 2, 3, 300, 310)
        self.assertEqual(len(book.runs), 256)
        self.assertEqual(ask(book, DECLINE, 1), [0])
        self.assertEqual(len(book.runs), 254)

    def test_no_such_offer(self):
        book = self.book_of_ten()
        self.refused(-10, book, DECLINE, 1)
        self.refused(-10, book, DECLINE, BILLION)
        ask(book, OFFER, 1, 2, 1, 1)
        ask(book, OFFER, 1, 2, 2, 2)
        ask(book, OFFER, 1, 2, 3, 3)
        self.refused(-10, book, DECLINE, 4)
        ask(book, DECLINE, 1)
        ask(book, ACCEPT, 2)
        for gone in (1, 2):
            self.refused(-10, book, DECLINE, gone)
            self.refused(-10, book, ACCEPT, gone)

    def test_makes_room_for_another_offer(self):
        book = new_book()
        give(book, 1, 0, 40)
        for number in range(1, 33):
            ask(book, OFFER, 1, 2, number, number)
        self.refused(-4, book, OFFER, 1, 2, 33, 33)
        self.assertEqual(ask(book, DECLINE, 32), [0])
        self.assertEqual(ask(book, OFFER, 1, 2, 32, 32), [0, 33])

    def test_through_the_interface(self):
        rows = ask_all((OPEN, 12, 3), (ACCOUNT,), (ACCOUNT,), (DEVICE, 1, 0), (METER, 1, 0, 3000), (ISSUE, 1, 0),
                       (OFFER, 1, 2, 1, 2), (DECLINE, 1), (DECLINE, 1), (ACCEPT, 1), (MOVE, 1, 2, 1, 3))
        self.assertEqual(rows[6:], [[0, 1], [0], [-10], [-10], [0]])


if __name__ == "__main__":
    unittest.main()
