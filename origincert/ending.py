"""The calls by which live numbers come to an end unused: tick and withdraw."""

from origincert.book import device_at, has_device
from origincert.codes import ACCEPTED, BEYOND_DEBT, FULL, NO_DEVICE, TOO_FEW, WRONG_MONTH
from origincert.limits import UNITS_EACH
from origincert.moving import restate, with_pairs
from origincert.runs import EXPIRED, LIVE, OFFERED, account_of, add_stretch, expired_on, greatest_parts, live_on
from origincert.runs import numbers_in, runs_in_state, runs_live_on, state_of, withdrawn_from


def status_at(run, life, now):
    """The run's status when all offers are gone and what is too old by this month has expired."""
    if state_of(run) != LIVE and state_of(run) != OFFERED:
        return run.status
    if run.month + life <= now:
        return expired_on(account_of(run))
    return live_on(account_of(run))


def runs_at(runs, life, now):
    result = []
    for run in runs:
        add_stretch(result, run, run.first, run.last, status_at(run, life, now))
    return result


def tick(book, month):
    if month <= book.now:
        return [WRONG_MONTH]
    expired_before = numbers_in(runs_in_state(book.runs, EXPIRED))
    book.now = month
    book.offers = {}
    # Every run changes as a whole or not at all, so there can't be more of them than before.
    book.runs = runs_at(book.runs, book.life, month)
    return [ACCEPTED, numbers_in(runs_in_state(book.runs, EXPIRED)) - expired_before]


def debt_of(device):
    return max(-device.balance, 0)


def withdraw(book, number, count):
    if not has_device(book, number):
        return [NO_DEVICE]
    device = device_at(book, number)
    if UNITS_EACH * (count - 1) >= debt_of(device):
        return [BEYOND_DEBT]
    runs = [run for run in runs_live_on(book.runs, device.owner) if run.device == number]
    if numbers_in(runs) < count:
        return [TOO_FEW]
    parts = greatest_parts(runs, count)
    if not restate(book, parts, withdrawn_from(device.owner)):
        return [FULL]
    device.balance += UNITS_EACH * count
    device.withdrawn += count
    return with_pairs(parts)
