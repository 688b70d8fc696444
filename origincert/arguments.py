"""Which arguments each call has, and the range of each."""

ARGUMENTS = {
    0: ("life", "window"),
    1: (),
    2: ("account", "technique"),
    3: ("device", "account"),
    4: ("device", "month", "total"),
    5: ("device", "month"),
    6: ("account", "account", "number", "number"),
    7: ("account", "account", "choice", "count"),
    8: ("account", "number", "number", "use"),
    9: ("account", "choice", "count", "use"),
    10: ("account", "account", "number", "number"),
    11: ("offer",),
    12: ("offer",),
    13: ("month",),
    14: ("device", "count"),
    15: ("number",),
    16: ("account",),
    17: ("account", "choice"),
    18: ("use",),
    19: ("device",),
    20: (),
    21: ("use", "used"),
    22: (),
    23: ("device", "month"),
}

RANGES = {
    "life": (1, 12000),
    "window": (0, 12000),
    "account": (1, 32),
    "technique": (0, 9),
    "choice": (-1, 9),
    "device": (1, 16),
    "month": (0, 12000),
    "total": (0, 1000000000),
    "number": (1, 1000000000),
    "count": (1, 1000000000),
    "offer": (1, 1000000000),
    "use": (1, 1000000),
    "used": (0, 1000000000),
}


def argument_count(place):
    return len(ARGUMENTS[place])


def all_in_range(place, arguments):
    for kind, value in zip(ARGUMENTS[place], arguments):
        bounds = RANGES[kind]
        if value < bounds[0] or value > bounds[1]:
            return False
    return True
