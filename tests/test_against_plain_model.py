"""Long rows of calls, compared with a model that keeps each number by itself and knows no runs."""

import random
import unittest

from origincert.book import Book
from origincert.registry import answers
from tests.helper import (ACCEPT, ACCOUNT, CANCEL, CANCEL_SOME, DEVICE, ISSUE, METER, MOVE, MOVE_SOME, OFFER, OPEN,
                          PASS, ask, flat, runs_of, split)

ACCOUNTS, DEVICES = range(1, 33), range(1, 17)
MONTHS, NUMBERS, USES = range(12001), range(1, 10 ** 9 + 1), range(1, 10 ** 6 + 1)
RANGES = {
    OPEN: (range(1, 12001), range(12001)), ACCOUNT: (), DEVICE: (ACCOUNTS, range(10)), PASS: (DEVICES, ACCOUNTS),
    METER: (DEVICES, MONTHS, range(10 ** 9 + 1)), ISSUE: (DEVICES, MONTHS),
    MOVE: (ACCOUNTS, ACCOUNTS, NUMBERS, NUMBERS), MOVE_SOME: (ACCOUNTS, ACCOUNTS, range(-1, 10), NUMBERS),
    CANCEL: (ACCOUNTS, NUMBERS, NUMBERS, USES), CANCEL_SOME: (ACCOUNTS, range(-1, 10), NUMBERS, USES),
    OFFER: (ACCOUNTS, ACCOUNTS, NUMBERS, NUMBERS), ACCEPT: (NUMBERS,),
}


class Refusal(Exception):
    pass


def refuse(code, when):
    if when:
        raise Refusal(code)


class PlainModel:
    """states[k] is (device, month, state, account, offer or use) of the number k + 1."""

    def __init__(self, now=0):
        self.life = None
        self.window = None
        self.now = now
        self.accounts = 0
        self.devices = {}
        self.totals = {}
        self.states = []
        self.offers = {}
        self.made = 0

    def runs(self, states=None):
        runs = []
        for number, state in enumerate(self.states if states is None else states, start=1):
            if runs and runs[-1][2:] == state:
                runs[-1] = (runs[-1][0], number) + state
            else:
                runs.append((number, number) + state)
        return runs

    def ask(self, place, *arguments):
        try:
            refuse(-1, any(value not in allowed for value, allowed in zip(arguments, RANGES[place])))
            refuse(-2, place != OPEN and self.life is None)
            return [0] + (self.CALLS[place](self, *arguments) or [])
        except Refusal as refusal:
            return [refusal.args[0]]

    def need_accounts(self, *accounts):
        refuse(-5, any(account > self.accounts for account in accounts))

    def need_device(self, device):
        refuse(-6, device not in self.devices)

    def put(self, states):
        refuse(-4, len(self.runs(states)) > 256)
        self.states = states

    def open_up(self, life, window):
        refuse(-3, self.life is not None)
        self.life, self.window = life, window

    def account(self):
        refuse(-4, self.accounts == 32)
        self.accounts += 1
        return [self.accounts]

    def device(self, account, technique):
        self.need_accounts(account)
        refuse(-4, len(self.devices) == 16)
        self.devices[len(self.devices) + 1] = {"owner": account, "technique": technique, "issued": 0}
        return [len(self.devices)]

    def pass_on(self, device, account):
        self.need_device(device)
        self.need_accounts(account)
        self.devices[device]["owner"] = account

    def balance(self, device):
        totals = sum(total for pair, total in self.totals.items() if pair[0] == device)
        return totals - 1000 * self.devices[device]["issued"]

    def meter(self, device, month, total):
        self.need_device(device)
        refuse(-9, not month <= self.now <= month + self.window)
        refuse(-4, len(self.totals) == 256 and (device, month) not in self.totals)
        self.totals[device, month] = total
        return [self.balance(device)]

    def issue(self, device, month):
        self.need_device(device)
        refuse(-9, not month <= self.now < month + self.life)
        count = max(0, self.balance(device) // 1000)
        if count == 0:
            return [0, 0]
        first = len(self.states) + 1
        self.put(self.states + [(device, month, 1, self.devices[device]["owner"], 0)] * count)
        self.devices[device]["issued"] += count
        return [count, first]

    def is_live(self, number, account):
        return number <= len(self.states) and self.states[number - 1][2:4] == (1, account)

    def change(self, numbers, *state):
        states = list(self.states)
        for number in numbers:
            states[number - 1] = states[number - 1][:2] + state
        self.put(states)

    def need_live(self, account, first, last):
        refuse(-7, last < first or last > len(self.states))
        refuse(-7, not all(self.is_live(number, account) for number in range(first, last + 1)))

    def move(self, source, to, first, last):
        self.need_accounts(source, to)
        self.need_live(source, first, last)
        self.change(range(first, last + 1), 1, to, 0)

    def cancel(self, account, first, last, use):
        self.need_accounts(account)
        self.need_live(account, first, last)
        self.change(range(first, last + 1), 3, account, use)

    def some(self, account, choice, count, *state):
        fit = [number for number in range(1, len(self.states) + 1) if self.is_live(number, account)
               and choice in (-1, self.devices[self.states[number - 1][0]]["technique"])]
        refuse(-8, len(fit) < count)
        chosen = sorted(fit, key=lambda number: (self.states[number - 1][1], number))[:count]
        before = self.runs()
        self.change(chosen, *state)
        pairs = []
        for number in chosen:
            run = [run for run in before if run[0] <= number <= run[1]][0]
            if pairs and pairs[-1][2] == run:
                pairs[-1][1] = number
            else:
                pairs.append([number, number, run])
        return [len(pairs)] + [number for pair in pairs for number in pair[:2]]

    def move_some(self, source, to, choice, count):
        self.need_accounts(source, to)
        return self.some(source, choice, count, 1, to, 0)

    def cancel_some(self, account, choice, count, use):
        self.need_accounts(account)
        return self.some(account, choice, count, 3, account, use)

    def offer(self, source, to, first, last):
        self.need_accounts(source, to)
        self.need_live(source, first, last)
        refuse(-4, len(self.offers) == 32)
        self.change(range(first, last + 1), 2, source, self.made + 1)
        self.made += 1
        self.offers[self.made] = (to, first, last)
        return [self.made]

    def accept(self, offer):
        refuse(-10, offer not in self.offers)
        to, first, last = self.offers.pop(offer)
        self.change(range(first, last + 1), 1, to, 0)

    CALLS = {OPEN: open_up, ACCOUNT: account, DEVICE: device, PASS: pass_on, METER: meter, ISSUE: issue, MOVE: move,
             MOVE_SOME: move_some, CANCEL: cancel, CANCEL_SOME: cancel_some, OFFER: offer, ACCEPT: accept}


def any_stretch(chance, model):
    """Mostly part of one run, so that the call is often accepted."""
    runs = model.runs()
    if not runs or chance.random() < 0.1:
        return 1, chance.randint(1, 40), chance.randint(1, 40)
    run = chance.choice(runs)
    first = chance.randint(run[0], run[1])
    return run[5], first, min(first + chance.choice((0, 0, 1, 2, 8)), run[1] + (chance.random() < 0.1))


def any_call(chance, model):
    place = chance.choice((PASS, METER, METER, ISSUE, ISSUE, MOVE, MOVE, MOVE, MOVE, MOVE_SOME, CANCEL, CANCEL_SOME,
                           OFFER, ACCEPT, ACCOUNT, DEVICE))
    account, first, last = any_stretch(chance, model)
    to = chance.randint(1, max(1, model.accounts) + (chance.random() < 0.1))
    device = chance.randint(1, max(1, len(model.devices)) + (chance.random() < 0.1))
    month = max(0, model.now - chance.choice((-1, 0, 0, 0, 1, 1, 2, 3, 4, 5)))
    some = (chance.choice((-1, -1, 0, 1, 2)), chance.randint(1, 12))
    use = chance.randint(1, 3)
    return {
        ACCOUNT: (ACCOUNT,), DEVICE: (DEVICE, to, chance.randint(0, 2)), PASS: (PASS, device, to),
        METER: (METER, device, month, chance.randint(0, 20000)), ISSUE: (ISSUE, device, month),
        MOVE: (MOVE, account, to, first, last), MOVE_SOME: (MOVE_SOME, account, to) + some,
        CANCEL: (CANCEL, account, first, last, use), CANCEL_SOME: (CANCEL_SOME, account) + some + (use,),
        OFFER: (OFFER, account, to, first, last), ACCEPT: (ACCEPT, chance.randint(1, model.made + 1)),
    }[place]


def with_one_wrong(chance, call):
    """Now and then one argument is far off its range."""
    if len(call) > 1 and chance.random() < 0.03:
        at = chance.randrange(1, len(call))
        return call[:at] + (chance.choice((-2, 0, 10 ** 9 + 1, -10 ** 18, 10 ** 18)),) + call[at + 1:]
    return call


class AgainstPlainModel(unittest.TestCase):
    def compare(self, seed, now, count):
        """Asks count calls of both; gives back the calls, their answers and the most runs there were."""
        chance = random.Random(seed)
        book, model = Book(), PlainModel(now)
        book.now = now
        calls = [(OPEN, 4, 3), (ACCOUNT,), (ACCOUNT,), (DEVICE, 1, 0), (DEVICE, 2, 1)]
        rows = [ask(book, *call) for call in calls]
        self.assertEqual(rows, [model.ask(*call) for call in calls])
        most = 0
        while len(calls) < count:
            call = with_one_wrong(chance, any_call(chance, model))
            calls.append(call)
            rows.append(ask(book, *call))
            self.assertEqual(rows[-1], model.ask(*call), (seed, calls))
            self.assertEqual(runs_of(book), model.runs(), (seed, calls))
            most = max(most, len(book.runs))
        return calls, rows, most

    def test_the_interface(self):
        for seed in range(30):
            calls, rows, most = self.compare(seed, 0, 400)
            self.assertEqual(split(answers(flat(calls))), rows)

    def test_later_months(self):
        for seed in range(30):
            self.compare(seed, 6, 300)

    def test_up_to_the_most_runs(self):
        calls, rows, most = self.compare(1000, 6, 2500)
        self.assertEqual(most, 256)


if __name__ == "__main__":
    unittest.main()
