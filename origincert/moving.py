"""The calls that change the state of numbers given: move, moveSome, cancel, cancelSome, offer, accept."""

from origincert.book import Offer, device_at, has_account
from origincert.codes import ACCEPTED, FULL, NO_ACCOUNT, NO_OFFER, NOT_LIVE, TOO_FEW
from origincert.limits import ANY_TECHNIQUE, MOST_OFFERS, MOST_OFFERS_MADE, MOST_RUNS
from origincert.runs import all_live, cancelled_by, earliest_parts, live_on, numbers_in, offered_by, parts_between
from origincert.runs import restated


def restate(book, parts, status):
    """Gives the numbers of the parts this status, and says whether the runs were few enough for that."""
    runs = restated(book.runs, parts, status)
    if len(runs) > MOST_RUNS:
        return False
    book.runs = runs
    return True


def restate_stretch(book, account, first, last, status):
    if not all_live(book.runs, first, last, account):
        return [NOT_LIVE]
    if not restate(book, parts_between(book.runs, first, last), status):
        return [FULL]
    return [ACCEPTED]


def has_technique(book, run, choice):
    return choice == ANY_TECHNIQUE or device_at(book, run.device).technique == choice


def runs_to_choose(book, account, choice):
    live = [run for run in book.runs if run.status == live_on(account)]
    return [run for run in live if has_technique(book, run, choice)]


def with_pairs(parts):
    answer = [ACCEPTED, len(parts)]
    for part in parts:
        answer.extend([part.first, part.last])
    return answer


def restate_some(book, account, choice, count, status):
    runs = runs_to_choose(book, account, choice)
    if numbers_in(runs) < count:
        return [TOO_FEW]
    parts = earliest_parts(runs, count)
    if not restate(book, parts, status):
        return [FULL]
    return with_pairs(parts)


def move(book, source, to, first, last):
    if not has_account(book, source) or not has_account(book, to):
        return [NO_ACCOUNT]
    return restate_stretch(book, source, first, last, live_on(to))


def move_some(book, source, to, choice, count):
    if not has_account(book, source) or not has_account(book, to):
        return [NO_ACCOUNT]
    return restate_some(book, source, choice, count, live_on(to))


def cancel(book, account, first, last, use):
    if not has_account(book, account):
        return [NO_ACCOUNT]
    return restate_stretch(book, account, first, last, cancelled_by(account, use))


def cancel_some(book, account, choice, count, use):
    if not has_account(book, account):
        return [NO_ACCOUNT]
    return restate_some(book, account, choice, count, cancelled_by(account, use))


def make_offer(book, source, to, first, last):
    if not has_account(book, source) or not has_account(book, to):
        return [NO_ACCOUNT]
    if not all_live(book.runs, first, last, source):
        return [NOT_LIVE]
    if len(book.offers) >= MOST_OFFERS or book.offers_made >= MOST_OFFERS_MADE:
        return [FULL]
    number = book.offers_made + 1
    if not restate(book, parts_between(book.runs, first, last), offered_by(source, number)):
        return [FULL]
    book.offers_made = number
    book.offers[number] = Offer(source, to, first, last)
    return [ACCEPTED, number]


def accept(book, number):
    if number not in book.offers:
        return [NO_OFFER]
    offer = book.offers.pop(number)
    # A run never reaches beyond an offer's first and last number, so the runs can only become fewer.
    restate(book, parts_between(book.runs, offer.first, offer.last), live_on(offer.to))
    return [ACCEPTED]
