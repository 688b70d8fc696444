"""The calls that set a registry up and give numbers: open, account, device, pass, meter, issue."""

from origincert.book import Device, device_at, has_account, has_device
from origincert.codes import ACCEPTED, FULL, NO_ACCOUNT, NO_DEVICE, OPEN_ALREADY, WRONG_MONTH
from origincert.limits import MOST_ACCOUNTS, MOST_DEVICES, MOST_NUMBERS, MOST_RUNS, MOST_TOTALS, UNITS_EACH
from origincert.runs import Run, live_on, numbers_given, with_run


def open_up(book, life, window):
    if book.opened:
        return [OPEN_ALREADY]
    book.opened = True
    book.life = life
    book.window = window
    return [ACCEPTED]


def add_account(book):
    if book.accounts >= MOST_ACCOUNTS:
        return [FULL]
    book.accounts += 1
    return [ACCEPTED, book.accounts]


def add_device(book, account, technique):
    if not has_account(book, account):
        return [NO_ACCOUNT]
    if len(book.devices) >= MOST_DEVICES:
        return [FULL]
    book.devices.append(Device(account, technique))
    return [ACCEPTED, len(book.devices)]


def pass_on(book, number, account):
    if not has_device(book, number):
        return [NO_DEVICE]
    if not has_account(book, account):
        return [NO_ACCOUNT]
    device = device_at(book, number)
    device.owner = account
    return [ACCEPTED]


def meter(book, number, month, total):
    if not has_device(book, number):
        return [NO_DEVICE]
    if month > book.now or month + book.window < book.now:
        return [WRONG_MONTH]
    pair = (number, month)
    # A total of 0 that was told takes a place too, so the dict's keys are counted, not its values.
    if pair not in book.totals and len(book.totals) >= MOST_TOTALS:
        return [FULL]
    device = device_at(book, number)
    device.balance += total - book.totals.get(pair, 0)
    book.totals[pair] = total
    return [ACCEPTED, device.balance]


def whole_certificates(balance):
    # A debt rounded down would be below 0; it gives none.
    return max(balance, 0) // UNITS_EACH


def issue(book, number, month):
    if not has_device(book, number):
        return [NO_DEVICE]
    if month > book.now or month + book.life <= book.now:
        return [WRONG_MONTH]
    device = device_at(book, number)
    amount = whole_certificates(device.balance)
    if amount == 0:
        return [ACCEPTED, 0, 0]
    first = numbers_given(book.runs) + 1
    last = first + amount - 1
    runs = with_run(book.runs, Run(first, last, number, month, live_on(device.owner)))
    if last > MOST_NUMBERS or len(runs) > MOST_RUNS:
        return [FULL]
    book.runs = runs
    device.balance -= UNITS_EACH * amount
    device.issued += amount
    return [ACCEPTED, amount, first]
