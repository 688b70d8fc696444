import unittest

from origincert.runs import Run, live_on
from tests.helper import (ACCEPT, ANY, BILLION, CANCEL, DECLINE, HOLDING, INFO, ISSUE, METER, MOVE, OFFER, OFFERS, PASS,
                          STATEMENT, SUMS, TALLY, TICK, TOTAL, WHERE, WITHDRAW, CallCase, ask, give, live, new_book,
                          offered, runs_of)


def book_of_all_states():
    """Numbers in all five states, of two devices with the techniques 5 and 7, and three accounts.

    1 to 4 live on 1, 5 offered by 1, 6 offered by 2, 7 live on 2, 8 cancelled by 1 for 30, 9 and 10 cancelled by 2
    for 30, 11 cancelled by 2 for 40, 12 withdrawn from 1, 13 and 14 expired on 3, 15 live on 1.
    """
    book = new_book(techniques=(5, 7), life=4, now=1)
    give(book, 1, 1, 7)
    give(book, 2, 1, 5)
    give(book, 2, 0, 2)
    ask(book, MOVE, 1, 2, 6, 7)
    ask(book, MOVE, 1, 2, 9, 11)
    ask(book, MOVE, 1, 3, 13, 14)
    ask(book, CANCEL, 1, 8, 8, 30)
    ask(book, CANCEL, 2, 9, 10, 30)
    ask(book, CANCEL, 2, 11, 11, 40)
    book.devices[1].balance = -1
    assert ask(book, WITHDRAW, 2, 1) == [0, 1, 12, 12]
    assert ask(book, TICK, 4) == [0, 2]
    ask(book, OFFER, 1, 3, 5, 5)
    ask(book, OFFER, 2, 1, 6, 6)
    give(book, 1, 3, 1)
    return book


class WhereTest(CallCase):
    def test_each_state(self):
        book = book_of_all_states()
        for number, answer in ((1, [1, 1, 0, 1, 1]), (4, [1, 1, 0, 1, 1]), (5, [2, 1, 1, 1, 1]), (6, [2, 2, 2, 1, 1]),
                               (7, [1, 2, 0, 1, 1]), (8, [3, 1, 30, 2, 1]), (9, [3, 2, 30, 2, 1]),
                               (10, [3, 2, 30, 2, 1]), (11, [3, 2, 40, 2, 1]), (12, [5, 1, 0, 2, 1]),
                               (13, [4, 3, 0, 2, 0]), (14, [4, 3, 0, 2, 0]), (15, [1, 1, 0, 1, 3])):
            self.asked([0] + answer, book, WHERE, number)

    def test_not_given(self):
        book = book_of_all_states()
        self.refused(-7, book, WHERE, 16)
        self.refused(-7, book, WHERE, BILLION)
        self.refused(-7, new_book(), WHERE, 1)

    def test_the_billionth(self):
        book = new_book()
        book.runs = [Run(1, BILLION, 1, 0, live_on(3))]
        self.asked([0, 1, 3, 0, 1, 0], book, WHERE, BILLION)


class HoldingTest(CallCase):
    def test_live_runs_in_order_of_number(self):
        book = book_of_all_states()
        self.asked([0, 2, 1, 4, 1, 1, 15, 15, 1, 3], book, HOLDING, 1)
        self.asked([0, 1, 7, 7, 1, 1], book, HOLDING, 2)
        self.asked([0, 0], book, HOLDING, 3)

    def test_offers_that_go_lengthen_a_run(self):
        book = book_of_all_states()
        ask(book, ACCEPT, 2)
        ask(book, DECLINE, 1)
        self.asked([0, 2, 1, 6, 1, 1, 15, 15, 1, 3], book, HOLDING, 1)

    def test_earlier_months_behind_later_ones(self):
        book = new_book(techniques=(0, 0), now=2)
        give(book, 2, 2, 2)
        give(book, 1, 0, 1)
        give(book, 1, 1, 3)
        self.asked([0, 3, 1, 2, 2, 2, 3, 3, 1, 0, 4, 6, 1, 1], book, HOLDING, 1)

    def test_no_such_account(self):
        self.refused(-5, book_of_all_states(), HOLDING, 4)
        self.asked([0, 0], new_book(accounts=32), HOLDING, 32)


class TallyTest(CallCase):
    def test_live_and_offered(self):
        book = book_of_all_states()
        for account, choice, answer in ((1, ANY, [5, 1]), (1, 5, [5, 1]), (1, 7, [0, 0]), (2, ANY, [1, 1]),
                                        (2, 5, [1, 1]), (2, 0, [0, 0]), (3, ANY, [0, 0])):
            self.asked([0] + answer, book, TALLY, account, choice)

    def test_by_technique(self):
        book = new_book(techniques=(0, 9, 0))
        give(book, 1, 0, 10)
        give(book, 2, 0, 20)
        give(book, 3, 0, 5)
        ask(book, OFFER, 1, 2, 8, 14)
        for choice, answer in ((ANY, [28, 7]), (0, [12, 3]), (9, [16, 4]), (1, [0, 0])):
            self.asked([0] + answer, book, TALLY, 1, choice)
        self.asked([0, 0, 0], book, TALLY, 2, ANY)
        ask(book, ACCEPT, 1)
        self.asked([0, 12, 0], book, TALLY, 1, 0)
        self.asked([0, 3, 0], book, TALLY, 2, 0)

    def test_no_such_account(self):
        self.refused(-5, book_of_all_states(), TALLY, 4, ANY)


class StatementTest(CallCase):
    def test_runs_of_the_use(self):
        book = book_of_all_states()
        self.asked([0, 2, 8, 8, 1, 2, 1, 9, 10, 2, 2, 1], book, STATEMENT, 30)
        self.asked([0, 1, 11, 11, 2, 2, 1], book, STATEMENT, 40)

    def test_an_unknown_use_has_none(self):
        for use in (1, 2, 31, 1000000):
            self.asked([0, 0], book_of_all_states(), STATEMENT, use)
        self.asked([0, 0], new_book(accounts=0, techniques=()), STATEMENT, 1)

    def test_an_offer_is_not_a_use(self):
        book = book_of_all_states()
        self.assertEqual(runs_of(book)[1:3], [offered(5, 5, 1, 1, 1, 1), offered(6, 6, 2, 2, 1, 1)])
        self.asked([0, 0], book, STATEMENT, 2)

    def test_in_order_of_number_not_of_time(self):
        book = new_book(now=1)
        give(book, 1, 1, 4)
        give(book, 1, 0, 4)
        for number in (7, 2, 4):
            ask(book, CANCEL, 1, number, number, 1000000)
        self.asked([0, 3, 2, 2, 1, 1, 1, 4, 4, 1, 1, 1, 7, 7, 1, 1, 0], book, STATEMENT, 1000000)


class InfoTest(CallCase):
    def test_a_new_device(self):
        self.asked([0, 1, 9, 0, 0, 0], new_book(techniques=(3, 9)), INFO, 2)

    def test_what_calls_leave_there(self):
        book = new_book(techniques=(3, 9))
        ask(book, METER, 2, 0, 6700)
        self.asked([0, 1, 9, 0, 0, 6700], book, INFO, 2)
        ask(book, ISSUE, 2, 0)
        self.asked([0, 1, 9, 6, 0, 700], book, INFO, 2)
        ask(book, METER, 2, 0, 3600)
        ask(book, PASS, 2, 3)
        self.asked([0, 3, 9, 6, 0, -2400], book, INFO, 2)
        ask(book, PASS, 2, 1)
        ask(book, WITHDRAW, 2, 3)
        self.asked([0, 1, 9, 6, 3, 600], book, INFO, 2)
        self.asked([0, 1, 3, 0, 0, 0], book, INFO, 1)

    def test_no_such_device(self):
        self.refused(-6, new_book(techniques=(3, 9)), INFO, 3)


class SumsTest(CallCase):
    def test_at_first(self):
        self.asked([0, 0, 0, 0, 0, 0, 0, 0, 0], new_book(accounts=0, techniques=()), SUMS)

    def test_each_state(self):
        self.asked([0, 4, 15, 6, 2, 4, 2, 1, 10], book_of_all_states(), SUMS)

    def test_runs_that_became_one(self):
        book = new_book()
        give(book, 1, 0, 9)
        ask(book, OFFER, 1, 2, 4, 5)
        self.asked([0, 0, 9, 7, 2, 0, 0, 0, 3], book, SUMS)
        ask(book, TICK, 3)
        self.assertEqual(runs_of(book), [live(1, 9, 1)])
        self.asked([0, 3, 9, 9, 0, 0, 0, 0, 1], book, SUMS)
        ask(book, TICK, 12000)
        self.asked([0, 12000, 9, 0, 0, 0, 9, 0, 1], book, SUMS)


class OffersTest(CallCase):
    def test_none(self):
        self.asked([0, 0], new_book(accounts=0, techniques=()), OFFERS)

    def test_in_order_of_their_numbers(self):
        book = new_book()
        give(book, 1, 0, 20)
        for first, last, to in ((15, 16, 2), (1, 4, 3), (9, 9, 1), (11, 12, 2)):
            ask(book, OFFER, 1, to, first, last)
        self.asked([0, 4, 1, 1, 2, 15, 16, 2, 1, 3, 1, 4, 3, 1, 1, 9, 9, 4, 1, 2, 11, 12], book, OFFERS)
        ask(book, DECLINE, 3)
        ask(book, ACCEPT, 1)
        ask(book, OFFER, 2, 1, 15, 15)
        self.asked([0, 3, 2, 1, 3, 1, 4, 4, 1, 2, 11, 12, 5, 2, 1, 15, 15], book, OFFERS)
        ask(book, TICK, 1)
        self.asked([0, 0], book, OFFERS)

    def test_offers_over_several_runs_are_told_once(self):
        book = new_book(techniques=(0, 1))
        give(book, 1, 0, 2)
        give(book, 2, 0, 2)
        ask(book, OFFER, 1, 3, 1, 4)
        self.asked([0, 1, 1, 1, 3, 1, 4], book, OFFERS)


class TotalTest(CallCase):
    def test_the_last_told(self):
        book = new_book(techniques=(0, 1), now=2)
        ask(book, METER, 1, 2, 500)
        ask(book, METER, 1, 1, BILLION)
        ask(book, METER, 2, 2, 7)
        ask(book, METER, 1, 2, 300)
        for device, month, answer in ((1, 2, 300), (1, 1, BILLION), (2, 2, 7), (2, 1, 0), (1, 0, 0), (1, 12000, 0)):
            self.asked([0, answer], book, TOTAL, device, month)

    def test_stays_behind_issue_and_ticks(self):
        book = new_book()
        ask(book, METER, 1, 0, 4500)
        ask(book, ISSUE, 1, 0)
        ask(book, TICK, 12000)
        self.asked([0, 4500], book, TOTAL, 1, 0)

    def test_no_such_device(self):
        book = new_book()
        self.refused(-6, book, TOTAL, 2, 0)
        self.refused(-6, new_book(techniques=()), TOTAL, 1, 12000)


if __name__ == "__main__":
    unittest.main()
