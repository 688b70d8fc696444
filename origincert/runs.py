"""Runs: stretches of consecutive numbers with the same device, month and status, as long as can be.

A status is a state, an account, and the offer or the use (0 for the other states). A list of runs is in order
of number and has every number given, each once.
"""

LIVE = 1
OFFERED = 2
CANCELLED = 3
EXPIRED = 4
WITHDRAWN = 5


class Run:
    def __init__(self, first, last, device, month, status):
        self.first = first
        self.last = last
        self.device = device
        self.month = month
        self.status = status


class Part:
    """Consecutive numbers of one run."""

    def __init__(self, run, first, last):
        self.run = run
        self.first = first
        self.last = last


def live_on(account):
    return (LIVE, account, 0)


def offered_by(account, offer):
    return (OFFERED, account, offer)


def cancelled_by(account, use):
    return (CANCELLED, account, use)


def expired_on(account):
    return (EXPIRED, account, 0)


def withdrawn_from(account):
    return (WITHDRAWN, account, 0)


def state_of(run):
    return run.status[0]


def account_of(run):
    return run.status[1]


def runs_in_state(runs, state):
    return [run for run in runs if state_of(run) == state]


def runs_live_on(runs, account):
    return [run for run in runs if run.status == live_on(account)]


def runs_offered_by(runs, account):
    return [run for run in runs_in_state(runs, OFFERED) if account_of(run) == account]


def runs_cancelled_for(runs, use):
    return [run for run in runs_in_state(runs, CANCELLED) if run.status[2] == use]


def numbers_given(runs):
    return runs[-1].last if runs else 0


def numbers_in(runs):
    return sum([run.last - run.first + 1 for run in runs])


def are_alike(one, other):
    return one.device == other.device and one.month == other.month and one.status == other.status


def add_run(runs, run):
    """Adds the run behind the last one, as one with it where they are alike."""
    if runs and are_alike(runs[-1], run):
        runs[-1] = Run(runs[-1].first, run.last, run.device, run.month, run.status)
    else:
        runs.append(run)


def add_stretch(runs, run, first, last, status):
    """Adds the run's numbers from first to last, with this status; none where last is less than first."""
    if first <= last:
        add_run(runs, Run(first, last, run.device, run.month, status))


def with_run(runs, run):
    result = list(runs)
    add_run(result, run)
    return result


def restated(runs, parts, status):
    """The runs when the numbers of the parts, at most one part a run, have this status."""
    part_of = {}
    for part in parts:
        part_of[part.run.first] = part
    result = []
    for run in runs:
        chosen = part_of.get(run.first)
        if chosen is None:
            add_run(result, run)
        else:
            add_stretch(result, run, run.first, chosen.first - 1, run.status)
            add_stretch(result, run, chosen.first, chosen.last, status)
            add_stretch(result, run, chosen.last + 1, run.last, run.status)
    return result


def parts_between(runs, first, last):
    parts = []
    for run in runs:
        low = max(run.first, first)
        high = min(run.last, last)
        if low <= high:
            parts.append(Part(run, low, high))
    return parts


def all_live(runs, first, last, account):
    """Whether first to last is a stretch of numbers that are given and live on the account."""
    if last < first or last > numbers_given(runs):
        return False
    return all([part.run.status == live_on(account) for part in parts_between(runs, first, last)])


def earliest_parts(runs, count):
    """The first count numbers of the runs, those of the earliest months first, then the smallest first."""
    parts = []
    left = count
    for run in sorted(runs, key=lambda one: (one.month, one.first)):
        if left > 0:
            last = min(run.last, run.first + left - 1)
            parts.append(Part(run, run.first, last))
            left -= last - run.first + 1
    return parts


def greatest_parts(runs, count):
    """The greatest count numbers of the runs, from the greatest run down."""
    parts = []
    left = count
    for run in reversed(runs):
        if left > 0:
            first = max(run.first, run.last - left + 1)
            parts.append(Part(run, first, run.last))
            left -= run.last - first + 1
    return parts
