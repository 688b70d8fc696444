"""The calls that ask and change nothing: where, holding, tally, statement, info, sums, offers, total."""

from origincert.book import device_at, has_account, has_device, of_technique
from origincert.codes import ACCEPTED, NO_ACCOUNT, NO_DEVICE, WRONG_NUMBER
from origincert.runs import CANCELLED, EXPIRED, LIVE, OFFERED, WITHDRAWN, account_of, numbers_given, numbers_in
from origincert.runs import parts_between, runs_cancelled_for, runs_in_state, runs_live_on, runs_offered_by


def where(book, number):
    parts = parts_between(book.runs, number, number)
    if not parts:
        return [WRONG_NUMBER]
    run = parts[0].run
    return [ACCEPTED] + list(run.status) + [run.device, run.month]


def holding(book, account):
    if not has_account(book, account):
        return [NO_ACCOUNT]
    runs = runs_live_on(book.runs, account)
    answer = [ACCEPTED, len(runs)]
    for run in runs:
        answer.extend([run.first, run.last, run.device, run.month])
    return answer


def tally(book, account, choice):
    if not has_account(book, account):
        return [NO_ACCOUNT]
    live = of_technique(book, runs_live_on(book.runs, account), choice)
    offered = of_technique(book, runs_offered_by(book.runs, account), choice)
    return [ACCEPTED, numbers_in(live), numbers_in(offered)]


def statement(book, use):
    runs = runs_cancelled_for(book.runs, use)
    answer = [ACCEPTED, len(runs)]
    for run in runs:
        answer.extend([run.first, run.last, account_of(run), run.device, run.month])
    return answer


def info(book, number):
    if not has_device(book, number):
        return [NO_DEVICE]
    device = device_at(book, number)
    return [ACCEPTED, device.owner, device.technique, device.issued, device.withdrawn, device.balance]


def sums(book):
    states = (LIVE, OFFERED, CANCELLED, EXPIRED, WITHDRAWN)
    amounts = [numbers_in(runs_in_state(book.runs, state)) for state in states]
    return [ACCEPTED, book.now, numbers_given(book.runs)] + amounts + [len(book.runs)]


def list_offers(book):
    answer = [ACCEPTED, len(book.offers)]
    for number in sorted(book.offers):
        offer = book.offers[number]
        answer.extend([number, offer.source, offer.to, offer.first, offer.last])
    return answer


def month_total(book, number, month):
    if not has_device(book, number):
        return [NO_DEVICE]
    return [ACCEPTED, book.totals.get((number, month), 0)]
