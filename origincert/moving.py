"""The calls that pass numbers on or use them: move, moveSome, cancel, cancelSome, offer, accept, decline."""

from origincert.book import Offer, has_account, of_technique
from origincert.codes import ACCEPTED, FULL, NO_ACCOUNT, NO_OFFER, TOO_FEW, WRONG_NUMBER
from origincert.limits import MOST_OFFERS, MOST_OFFERS_MADE, MOST_RUNS
from origincert.runs import all_live, cancelled_by, earliest_parts, live_on, numbers_in, offered_by, parts_between
from origincert.runs import restated, runs_live_on


def restate(book, parts, status):
    """Gives the numbers of the parts this status, and says whether the runs were few enough for that."""
    runs = restated(book.runs, parts, status)
    if len(runs) > MOST_RUNS:
        return False
    book.runs = runs
    return True


def restate_stretch(book, account, first, last, status):
    if not all_live(book.runs, first, last, account):
        return [WRONG_NUMBER]
    if not restate(book, parts_between(book.runs, first, last), status):
        return [FULL]
    return [ACCEPTED]


def with_pairs(parts):
    answer = [ACCEPTED, len(parts)]
    for part in parts:
        answer.extend([part.first, part.last])
    return answer


def restate_some(book, account, choice, count, status):
    runs = of_technique(book, runs_live_on(book.runs, account), choice)
    if numbers_in(runs) < count:
        return [TOO_FEW]
    parts = earliest_parts(runs, count)
    if not restate(book, parts, status):
        return [FULL]
    return with_pairs(parts)


def move(book, source, to, first, last):
    if not has_account(book, source) or not has_account(book, to):
        return [NO_ACCOUNT]
    return restate_stretch(book, source, first, last, live_on(to))


def move_some(book, source, to, choice, count):
    if not has_account(book, source) or not has_account(book, to):
        return [NO_ACCOUNT]
    return restate_some(book, source, choice, count, live_on(to))


def cancel(book, account, first, last, use):
    if not has_account(book, account):
        return [NO_ACCOUNT]
    return restate_stretch(book, account, first, last, cancelled_by(account, use))


def cancel_some(book, account, choice, count, use):
    if not has_account(book, account):
        return [NO_ACCOUNT]
    return restate_some(book, account, choice, count, cancelled_by(account, use))


def make_offer(book, source, to, first, last):
    if not has_account(book, source) or not has_account(book, to):
        return [NO_ACCOUNT]
    if not all_live(book.runs, first, last, source):
        return [WRONG_NUMBER]
    if len(book.offers) >= MOST_OFFERS or book.offers_made >= MOST_OFFERS_MADE:
        return [FULL]
    number = book.offers_made + 1
    if not restate(book, parts_between(book.runs, first, last), offered_by(source, number)):
        return [FULL]
    book.offers_made = number
    book.offers[number] = Offer(source, to, first, last)
    return [ACCEPTED, number]


def end_offer(book, number, account):
    offer = book.offers.pop(number)
    # A run never reaches beyond an offer's first and last number, so the runs can only become fewer.
    restate(book, parts_between(book.runs, offer.first, offer.last), live_on(account))
    return [ACCEPTED]


def accept(book, number):
    if number not in book.offers:
        return [NO_OFFER]
    return end_offer(book, number, book.offers[number].to)


def decline(book, number):
    if number not in book.offers:
        return [NO_OFFER]
    return end_offer(book, number, book.offers[number].source)
