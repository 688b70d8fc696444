"""The first number of an answer: accepted, or why the call is refused."""

ACCEPTED = 0
OUT_OF_RANGE = -1
NOT_OPEN = -2
OPEN_ALREADY = -3
FULL = -4
NO_ACCOUNT = -5
NO_DEVICE = -6
WRONG_NUMBER = -7
TOO_FEW = -8
WRONG_MONTH = -9
NO_OFFER = -10
BEYOND_DEBT = -11
