"""The call disclose: of which techniques a use was made, in ten thousandths.

What was cancelled for the use counts as it is; what isn't covered is taken from all that was metered and not
cancelled, as that is spread over the techniques, or is unknown where there's nothing of it.
"""

from origincert.book import device_at, technique_of
from origincert.codes import ACCEPTED
from origincert.limits import TECHNIQUES, UNITS_EACH
from origincert.runs import CANCELLED, numbers_in, runs_cancelled_for, runs_in_state

WHOLE = 10000


def numbers_by_technique(book, runs):
    amounts = [0] * TECHNIQUES
    for run in runs:
        amounts[technique_of(book, run)] += numbers_in([run])
    return amounts


def units_by_technique(book):
    amounts = [0] * TECHNIQUES
    for pair in book.totals:
        amounts[device_at(book, pair[0]).technique] += book.totals[pair]
    return amounts


def units_left(book):
    """For each technique the units metered that no cancelled number stands for."""
    cancelled = numbers_by_technique(book, runs_in_state(book.runs, CANCELLED))
    return [max(units - UNITS_EACH * amount, 0) for units, amount in zip(units_by_technique(book), cancelled)]


def parts_of(covered, left, uncovered):
    """The part of each technique, and of unknown behind them; their sum is the total."""
    all_left = sum(left)
    if all_left == 0:
        return covered + [uncovered]
    return [amount * all_left + uncovered * units for amount, units in zip(covered, left)] + [0]


def ten_thousandths(parts):
    total = sum(parts)
    if total == 0:
        return [0] * len(parts)
    shares = [WHOLE * part // total for part in parts]
    lacking = WHOLE - sum(shares)
    order = sorted(range(len(parts)), key=lambda at: (-(WHOLE * parts[at] % total), at))
    for at in order[:lacking]:
        shares[at] += 1
    return shares


def disclose(book, use, used):
    covered = numbers_by_technique(book, runs_cancelled_for(book.runs, use))
    uncovered = max(used - sum(covered), 0)
    return [ACCEPTED] + ten_thousandths(parts_of(covered, units_left(book), uncovered))
