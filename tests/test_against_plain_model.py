"""Long rows of calls, compared with a model that keeps each number by itself and knows no runs."""

import random
import unittest
from fractions import Fraction

from origincert.book import Book
from origincert.registry import answers
from tests.helper import (ACCEPT, ACCOUNT, CANCEL, CANCEL_SOME, DECLINE, DEVICE, DISCLOSE, HOLDING, INFO, ISSUE, METER,
                          MOVE, MOVE_SOME, OFFER, OFFERS, OPEN, PASS, STATEMENT, SUMS, TALLY, TICK, TOTAL, WHERE,
                          WITHDRAW, ask, flat, kept, runs_of, split)

ACCOUNTS, DEVICES = range(1, 33), range(1, 17)
MONTHS, NUMBERS, USES, CHOICES = range(12001), range(1, 10 ** 9 + 1), range(1, 10 ** 6 + 1), range(-1, 10)
RANGES = {
    OPEN: (range(1, 12001), range(12001)), ACCOUNT: (), DEVICE: (ACCOUNTS, range(10)), PASS: (DEVICES, ACCOUNTS),
    METER: (DEVICES, MONTHS, range(10 ** 9 + 1)), ISSUE: (DEVICES, MONTHS),
    MOVE: (ACCOUNTS, ACCOUNTS, NUMBERS, NUMBERS), MOVE_SOME: (ACCOUNTS, ACCOUNTS, CHOICES, NUMBERS),
    CANCEL: (ACCOUNTS, NUMBERS, NUMBERS, USES), CANCEL_SOME: (ACCOUNTS, CHOICES, NUMBERS, USES),
    OFFER: (ACCOUNTS, ACCOUNTS, NUMBERS, NUMBERS), ACCEPT: (NUMBERS,), DECLINE: (NUMBERS,), TICK: (MONTHS,),
    WITHDRAW: (DEVICES, NUMBERS), WHERE: (NUMBERS,), HOLDING: (ACCOUNTS,), TALLY: (ACCOUNTS, CHOICES),
    STATEMENT: (USES,), INFO: (DEVICES,), SUMS: (), DISCLOSE: (USES, range(10 ** 9 + 1)), OFFERS: (),
    TOTAL: (DEVICES, MONTHS),
}
ASKING = range(WHERE, TOTAL + 1)


class Refusal(Exception):
    pass


def refuse(code, when):
    if when:
        raise Refusal(code)


class PlainModel:
    """states[k] is (device, month, state, account, offer or use) of the number k + 1."""

    def __init__(self):
        self.life = None
        self.window = None
        self.now = 0
        self.accounts = 0
        self.devices = {}
        self.totals = {}
        self.states = []
        self.offers = {}
        self.made = 0

    def runs(self, states=None):
        runs = []
        for number, state in enumerate(self.states if states is None else states, start=1):
            if runs and runs[-1][2:] == state:
                runs[-1] = (runs[-1][0], number) + state
            else:
                runs.append((number, number) + state)
        return runs

    def ask(self, place, *arguments):
        try:
            refuse(-1, any(value not in allowed for value, allowed in zip(arguments, RANGES[place])))
            refuse(-2, place != OPEN and self.life is None)
            return [0] + (self.CALLS[place](self, *arguments) or [])
        except Refusal as refusal:
            return [refusal.args[0]]

    def need_accounts(self, *accounts):
        refuse(-5, any(account > self.accounts for account in accounts))

    def need_device(self, device):
        refuse(-6, device not in self.devices)

    def put(self, states):
        refuse(-4, len(self.runs(states)) > 256)
        self.states = states

    def open_up(self, life, window):
        refuse(-3, self.life is not None)
        self.life, self.window = life, window

    def account(self):
        refuse(-4, self.accounts == 32)
        self.accounts += 1
        return [self.accounts]

    def device(self, account, technique):
        self.need_accounts(account)
        refuse(-4, len(self.devices) == 16)
        self.devices[len(self.devices) + 1] = {"owner": account, "technique": technique, "issued": 0, "withdrawn": 0}
        return [len(self.devices)]

    def pass_on(self, device, account):
        self.need_device(device)
        self.need_accounts(account)
        self.devices[device]["owner"] = account

    def balance(self, device):
        totals = sum(total for pair, total in self.totals.items() if pair[0] == device)
        return totals - 1000 * (self.devices[device]["issued"] - self.devices[device]["withdrawn"])

    def meter(self, device, month, total):
        self.need_device(device)
        refuse(-9, not month <= self.now <= month + self.window)
        refuse(-4, len(self.totals) == 256 and (device, month) not in self.totals)
        self.totals[device, month] = total
        return [self.balance(device)]

    def issue(self, device, month):
        self.need_device(device)
        refuse(-9, not month <= self.now < month + self.life)
        count = max(0, self.balance(device) // 1000)
        if count == 0:
            return [0, 0]
        first = len(self.states) + 1
        self.put(self.states + [(device, month, 1, self.devices[device]["owner"], 0)] * count)
        self.devices[device]["issued"] += count
        return [count, first]

    def is_live(self, number, account):
        return number <= len(self.states) and self.states[number - 1][2:4] == (1, account)

    def change(self, numbers, *state):
        states = list(self.states)
        for number in numbers:
            states[number - 1] = states[number - 1][:2] + state
        self.put(states)

    def need_live(self, account, first, last):
        refuse(-7, last < first or last > len(self.states))
        refuse(-7, not all(self.is_live(number, account) for number in range(first, last + 1)))

    def move(self, source, to, first, last):
        self.need_accounts(source, to)
        self.need_live(source, first, last)
        self.change(range(first, last + 1), 1, to, 0)

    def cancel(self, account, first, last, use):
        self.need_accounts(account)
        self.need_live(account, first, last)
        self.change(range(first, last + 1), 3, account, use)

    def some(self, account, choice, count, *state):
        fit = [number for number in range(1, len(self.states) + 1) if self.is_live(number, account)
               and choice in (-1, self.technique(self.states[number - 1]))]
        refuse(-8, len(fit) < count)
        chosen = sorted(fit, key=lambda number: (self.states[number - 1][1], number))[:count]
        return self.change_chosen(chosen, *state)

    def change_chosen(self, chosen, *state):
        before = self.runs()
        self.change(chosen, *state)
        pairs = []
        for number in chosen:
            run = [run for run in before if run[0] <= number <= run[1]][0]
            if pairs and pairs[-1][2] == run:
                pairs[-1][:2] = min(pairs[-1][0], number), max(pairs[-1][1], number)
            else:
                pairs.append([number, number, run])
        return [len(pairs)] + [number for pair in pairs for number in pair[:2]]

    def technique(self, state):
        return self.devices[state[0]]["technique"]

    def move_some(self, source, to, choice, count):
        self.need_accounts(source, to)
        return self.some(source, choice, count, 1, to, 0)

    def cancel_some(self, account, choice, count, use):
        self.need_accounts(account)
        return self.some(account, choice, count, 3, account, use)

    def offer(self, source, to, first, last):
        self.need_accounts(source, to)
        self.need_live(source, first, last)
        refuse(-4, len(self.offers) == 32)
        self.change(range(first, last + 1), 2, source, self.made + 1)
        self.made += 1
        self.offers[self.made] = (source, to, first, last)
        return [self.made]

    def accept(self, offer):
        refuse(-10, offer not in self.offers)
        source, to, first, last = self.offers.pop(offer)
        self.change(range(first, last + 1), 1, to, 0)

    def decline(self, offer):
        refuse(-10, offer not in self.offers)
        source, to, first, last = self.offers.pop(offer)
        self.change(range(first, last + 1), 1, source, 0)

    def tick(self, month):
        refuse(-9, month <= self.now)
        self.now = month
        for offer in list(self.offers):
            self.decline(offer)
        count = 0
        for number, state in enumerate(self.states, start=1):
            if state[2] == 1 and state[1] + self.life <= self.now:
                self.states[number - 1] = state[:2] + (4, state[3], 0)
                count += 1
        return [count]

    def withdraw(self, device, count):
        self.need_device(device)
        refuse(-11, 1000 * (count - 1) >= max(0, -self.balance(device)))
        owner = self.devices[device]["owner"]
        fit = [number for number in range(1, len(self.states) + 1)
               if self.is_live(number, owner) and self.states[number - 1][0] == device]
        refuse(-8, len(fit) < count)
        answer = self.change_chosen(fit[::-1][:count], 5, owner, 0)
        self.devices[device]["withdrawn"] += count
        return answer

    def where(self, number):
        refuse(-7, number > len(self.states))
        device, month, *state = self.states[number - 1]
        return state + [device, month]

    def rows(self, rows):
        return [len(rows)] + flat(rows)

    def holding(self, account):
        self.need_accounts(account)
        return self.rows([run[:4] for run in self.runs() if run[4:] == (1, account, 0)])

    def tally(self, account, choice):
        self.need_accounts(account)
        fit = [state[2] for state in self.states if state[3] == account and choice in (-1, self.technique(state))]
        return [fit.count(1), fit.count(2)]

    def statement(self, use):
        runs = [run for run in self.runs() if (run[4], run[6]) == (3, use)]
        return self.rows([run[:2] + (run[5],) + run[2:4] for run in runs])

    def info(self, device):
        self.need_device(device)
        return [self.devices[device][key] for key in ("owner", "technique", "issued", "withdrawn")] + [
            self.balance(device)]

    def sums(self):
        states = [state[2] for state in self.states]
        return [self.now, len(states)] + [states.count(state) for state in range(1, 6)] + [len(self.runs())]

    def parts(self, use, used):
        """The parts of disclose as fractions of 10000, or none where their total is 0."""
        cancelled = [(self.technique(state), state[4]) for state in self.states if state[2] == 3]
        k = [cancelled.count((technique, use)) for technique in range(10)]
        w = [max(0, sum(total for (device, month), total in self.totals.items()
                        if self.devices[device]["technique"] == technique)
                 - 1000 * len([1 for other, for_use in cancelled if other == technique])) for technique in range(10)]
        uncovered = max(0, used - sum(k))
        if sum(k) + uncovered == 0:
            return []
        whole = Fraction(10000, sum(k) + uncovered)
        if sum(w) == 0:
            return [whole * count for count in k] + [whole * uncovered]
        return [whole * (count + uncovered * Fraction(units, sum(w))) for count, units in zip(k, w)] + [Fraction(0)]

    def disclose(self, use, used):
        parts = self.parts(use, used)
        if not parts:
            return [0] * 11
        answer = [int(part) for part in parts]
        rest = [part - int(part) for part in parts]
        while sum(answer) < 10000:
            at = rest.index(max(rest))
            answer[at] += 1
            rest[at] = -1
        return answer

    def list_offers(self):
        return self.rows([(number,) + self.offers[number] for number in sorted(self.offers)])

    def total(self, device, month):
        self.need_device(device)
        return [self.totals.get((device, month), 0)]

    CALLS = {OPEN: open_up, ACCOUNT: account, DEVICE: device, PASS: pass_on, METER: meter, ISSUE: issue, MOVE: move,
             MOVE_SOME: move_some, CANCEL: cancel, CANCEL_SOME: cancel_some, OFFER: offer, ACCEPT: accept,
             DECLINE: decline, TICK: tick, WITHDRAW: withdraw, WHERE: where, HOLDING: holding, TALLY: tally,
             STATEMENT: statement, INFO: info, SUMS: sums, DISCLOSE: disclose, OFFERS: list_offers, TOTAL: total}


def any_stretch(chance, model):
    """Mostly part of one run, so that the call is often accepted."""
    runs = model.runs()
    if not runs or chance.random() < 0.1:
        return 1, chance.randint(1, 40), chance.randint(1, 40)
    run = chance.choice(runs)
    first = chance.randint(run[0], run[1])
    return run[5], first, min(first + chance.choice((0, 0, 1, 2, 8)), run[1] + (chance.random() < 0.1))


CHANGING = (PASS, METER, METER, METER, ISSUE, ISSUE, MOVE, MOVE, MOVE, MOVE, MOVE_SOME, CANCEL, CANCEL_SOME, OFFER,
            OFFER, ACCEPT, DECLINE, WITHDRAW, WITHDRAW, ACCOUNT, DEVICE)


def any_offer(chance, model):
    if model.offers and chance.random() < 0.7:
        return chance.choice(list(model.offers))
    return chance.randint(1, model.made + 1)


def any_device(chance, model):
    """Now and then one that has a debt, so that there is something to be withdrawn."""
    debtors = [device for device in model.devices if model.balance(device) < 0]
    if debtors and chance.random() < 0.4:
        return chance.choice(debtors)
    return chance.randint(1, max(1, len(model.devices)) + (chance.random() < 0.1))


def any_call(chance, model, ticks):
    draw = chance.random()
    place = TICK if draw < ticks else chance.choice(CHANGING if draw < 0.7 else ASKING)
    account, first, last = any_stretch(chance, model)
    to = chance.randint(1, max(1, model.accounts) + (chance.random() < 0.1))
    device = any_device(chance, model)
    month = max(0, model.now - chance.choice((-1, 0, 0, 0, 1, 1, 2, 3, 4, 5)))
    choice, count = chance.choice((-1, -1, 0, 1, 2)), chance.randint(1, 12)
    use = chance.randint(1, 3)
    return (place,) + {
        ACCOUNT: (), DEVICE: (to, chance.randint(0, 2)), PASS: (device, to),
        METER: (device, month, chance.randint(0, 20000)), ISSUE: (device, month), MOVE: (account, to, first, last),
        MOVE_SOME: (account, to, choice, count), CANCEL: (account, first, last, use),
        CANCEL_SOME: (account, choice, count, use), OFFER: (account, to, first, last),
        ACCEPT: (any_offer(chance, model),), DECLINE: (any_offer(chance, model),),
        TICK: (max(0, model.now + chance.choice((0, 1, 1, 1, 2, -1))),), WITHDRAW: (device, chance.randint(1, 6)),
        WHERE: (first,), HOLDING: (to,), TALLY: (to, choice), STATEMENT: (use,), INFO: (device,), SUMS: (),
        DISCLOSE: (use, chance.choice((0, chance.randint(0, 60), 10 ** 9))), OFFERS: (), TOTAL: (device, month),
    }[place]


def with_one_wrong(chance, call):
    """Now and then one argument is far off its range."""
    if len(call) > 1 and chance.random() < 0.03:
        at = chance.randrange(1, len(call))
        return call[:at] + (chance.choice((-2, 0, 10 ** 9 + 1, -10 ** 18, 10 ** 18)),) + call[at + 1:]
    return call


class AgainstPlainModel(unittest.TestCase):
    def compare(self, seed, count, ticks):
        """Asks count calls of both; gives back the calls, their answers and the most runs there were."""
        chance = random.Random(seed)
        book, model = Book(), PlainModel()
        calls = [(OPEN, 4, 3), (ACCOUNT,), (ACCOUNT,), (DEVICE, 1, 0), (DEVICE, 2, 1)]
        rows = [ask(book, *call) for call in calls]
        self.assertEqual(rows, [model.ask(*call) for call in calls])
        most = 0
        while len(calls) < count:
            call = with_one_wrong(chance, any_call(chance, model, ticks))
            calls.append(call)
            before = kept(book)
            rows.append(ask(book, *call))
            self.assertEqual(rows[-1], model.ask(*call), (seed, calls))
            self.assertEqual(runs_of(book), model.runs(), (seed, calls))
            if rows[-1][0] < 0 or call[0] in ASKING:
                self.assertEqual(kept(book), before, (seed, calls))
            most = max(most, len(book.runs))
        return calls, rows, most

    def test_all_kinds_of_calls_through_the_interface(self):
        met = set()
        for seed in range(60):
            calls, rows, most = self.compare(seed, 400, 0.04)
            numbers = flat(calls)
            handed_in = list(numbers)
            self.assertEqual(split(answers(handed_in)), rows)
            self.assertEqual(handed_in, numbers)
            met.update((call[0], row[0]) for call, row in zip(calls, rows))
        self.assertEqual({place for place, code in met if code == 0}, set(range(24)))
        self.assertEqual({place for place, code in met if code == -1},
                         {place for place, ranges in RANGES.items() if ranges} - {OPEN})
        self.assertLessEqual({(TICK, -9), (WITHDRAW, -6), (WITHDRAW, -11), (WITHDRAW, -8), (DECLINE, -10), (WHERE, -7),
                              (HOLDING, -5), (TALLY, -5), (INFO, -6), (TOTAL, -6)}, met)

    def test_no_call_is_answered_before_open(self):
        for seed in range(20):
            chance = random.Random(seed)
            model = PlainModel()
            calls = [with_one_wrong(chance, any_call(chance, model, 0.04)) for _ in range(50)]
            rows = split(answers(flat(calls)))
            self.assertEqual(rows, [model.ask(*call) for call in calls])
            self.assertLessEqual({row[0] for row in rows}, {-1, -2})

    def test_up_to_the_most_runs(self):
        met = set()
        for seed, ticks in ((1000, 0.002), (1001, 0.005)):
            calls, rows, most = self.compare(seed, 8000, ticks)
            self.assertEqual(most, 256)
            met.update(call[0] for call, row in zip(calls, rows) if row == [-4])
        self.assertEqual(met, {ACCOUNT, DEVICE, METER, ISSUE, MOVE, MOVE_SOME, CANCEL, CANCEL_SOME, OFFER, WITHDRAW})


if __name__ == "__main__":
    unittest.main()
