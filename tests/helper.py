"""What the tests share: asking calls, and looking at what a registry keeps."""

import unittest

from origincert.book import Book
from origincert.registry import answer_call, answers

OPEN, ACCOUNT, DEVICE, PASS, METER, ISSUE = 0, 1, 2, 3, 4, 5
MOVE, MOVE_SOME, CANCEL, CANCEL_SOME, OFFER, ACCEPT = 6, 7, 8, 9, 10, 11
DECLINE, TICK, WITHDRAW = 12, 13, 14
WHERE, HOLDING, TALLY, STATEMENT, INFO, SUMS, DISCLOSE, OFFERS, TOTAL = 15, 16, 17, 18, 19, 20, 21, 22, 23
ANY = -1
BILLION = 10 ** 9


def flat(calls):
    return [number for call in calls for number in call]


def split(numbers):
    """The answers of a list that answers() gave back, one list a call."""
    rows = []
    at = 0
    while at < len(numbers):
        behind = at + 1 + numbers[at]
        rows.append(numbers[at + 1:behind])
        at = behind
    assert at == len(numbers)
    return rows


def ask_all(*calls):
    return split(answers(flat(calls)))


def last_answer(*calls):
    return ask_all(*calls)[-1]


def ask(book, *call):
    return answer_call(book, call[0], list(call[1:]))


def runs_of(book):
    return [(run.first, run.last, run.device, run.month) + run.status for run in book.runs]


def kept(book):
    """All that the registry keeps, as plain values."""
    devices = [(d.owner, d.technique, d.issued, d.withdrawn, d.balance) for d in book.devices]
    offers = [(n, o.source, o.to, o.first, o.last) for n, o in book.offers.items()]
    settings = (book.opened, book.life, book.window, book.now, book.accounts)
    return settings, devices, dict(book.totals), runs_of(book), offers, book.offers_made


def new_book(accounts=3, techniques=(0,), life=12, window=3, now=0):
    """An open registry; all devices belong to account 1."""
    book = Book()
    assert ask(book, OPEN, life, window) == [0]
    for _ in range(accounts):
        ask(book, ACCOUNT)
    for technique in techniques:
        ask(book, DEVICE, 1, technique)
    if now > 0:
        assert ask(book, TICK, now) == [0, 0]
    return book


def live(first, last, account, device=1, month=0):
    """A run as runs_of tells it."""
    return (first, last, device, month, 1, account, 0)


def offered(first, last, account, offer, device=1, month=0):
    return (first, last, device, month, 2, account, offer)


def cancelled(first, last, account, use, device=1, month=0):
    return (first, last, device, month, 3, account, use)


def expired(first, last, account, device=1, month=0):
    return (first, last, device, month, 4, account, 0)


def withdrawn(first, last, account, device=1, month=0):
    return (first, last, device, month, 5, account, 0)


def give(book, device, month, count):
    """Issues count numbers of this device and month, whatever its totals are; answers the first of them."""
    book.devices[device - 1].balance = 1000 * count
    answer = ask(book, ISSUE, device, month)
    assert answer[:2] == [0, count], answer
    return answer[2]


def checkered_book(runs, **settings):
    """A registry with so many runs of device 1 and month 0, by turns on the accounts 1 and 2.

    Number k is a run by itself for each k < runs; all from there to 600 are the last run.
    """
    book = new_book(**settings)
    give(book, 1, 0, 600)
    for number in range(2, runs + 1, 2):
        last = 600 if number == runs else number
        assert ask(book, MOVE, 1, 2, number, last) == [0]
    assert len(book.runs) == runs
    return book


class CallCase(unittest.TestCase):
    def refused(self, code, book, *call):
        """The call answers this code alone, and changes nothing."""
        self.asked([code], book, *call)

    def asked(self, answer, book, *call):
        """The call answers this, and changes nothing."""
        before = kept(book)
        self.assertEqual(ask(book, *call), answer)
        self.assertEqual(kept(book), before)
