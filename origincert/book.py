"""What one registry keeps."""

from origincert.limits import ANY_TECHNIQUE


class Device:
    def __init__(self, owner, technique):
        self.owner = owner
        self.technique = technique
        self.issued = 0
        self.withdrawn = 0
        self.balance = 0


class Offer:
    def __init__(self, source, to, first, last):
        self.source = source
        self.to = to
        self.first = first
        self.last = last


class Book:
    """One registry.

    accounts is how many there are; totals has the key (device, month) for each total told; offers has those
    that are there by their numbers. The list of runs is never changed, only put in the place of the old one,
    so that a call can look at what would be and still be refused.
    """

    def __init__(self):
        self.opened = False
        self.life = 0
        self.window = 0
        self.now = 0
        self.accounts = 0
        self.devices = []
        self.totals = {}
        self.runs = []
        self.offers = {}
        self.offers_made = 0


def has_account(book, account):
    return account <= book.accounts


def has_device(book, number):
    return number <= len(book.devices)


def device_at(book, number):
    return book.devices[number - 1]


def technique_of(book, run):
    return device_at(book, run.device).technique


def of_technique(book, runs, choice):
    if choice == ANY_TECHNIQUE:
        return runs
    return [run for run in runs if technique_of(book, run) == choice]
