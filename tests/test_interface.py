import contextlib
import io
import unittest

from origincert.registry import answers
from tests.helper import (ACCEPT, ACCOUNT, ANY, CANCEL, CANCEL_SOME, DECLINE, DEVICE, DISCLOSE, HOLDING, INFO, ISSUE,
                          METER, MOVE, MOVE_SOME, OFFER, OFFERS, OPEN, PASS, STATEMENT, SUMS, TALLY, TICK, TOTAL,
                          WHERE, WITHDRAW, ask_all, flat)

# All 24 calls, each with its answer.
TOLD = [
    ((SUMS,), [-2]),
    ((OPEN, 12, 3), [0]),
    ((ACCOUNT,), [0, 1]),
    ((ACCOUNT,), [0, 2]),
    ((DEVICE, 1, 4), [0, 1]),
    ((METER, 1, 0, 9500), [0, 9500]),
    ((ISSUE, 1, 0), [0, 9, 1]),
    ((MOVE, 1, 2, 2, 3), [0]),
    ((MOVE_SOME, 1, 2, ANY, 3), [0, 2, 1, 1, 4, 5]),
    ((CANCEL, 2, 3, 3, 7), [0]),
    ((CANCEL_SOME, 2, 4, 3, 8), [0, 2, 1, 2, 4, 4]),
    ((OFFER, 1, 2, 7, 8), [0, 1]),
    ((ACCEPT, 1), [0]),
    ((ACCEPT, 1), [-10]),
    ((PASS, 1, 2), [0]),
    ((MOVE, 0, 2, 2, 3), [-1]),
    ((OFFER, 2, 1, 8, 8), [0, 2]),
    ((OFFERS,), [0, 1, 2, 2, 1, 8, 8]),
    ((TALLY, 2, 4), [0, 2, 1]),
    ((DECLINE, 2), [0]),
    ((METER, 1, 0, 7000), [0, -2000]),
    ((WITHDRAW, 1, 3), [-11]),
    ((WITHDRAW, 1, 2), [0, 1, 7, 8]),
    ((INFO, 1), [0, 2, 4, 9, 2, 0]),
    ((WHERE, 8), [0, 5, 2, 0, 1, 0]),
    ((HOLDING, 2), [0, 1, 5, 5, 1, 0]),
    ((STATEMENT, 8), [0, 2, 1, 2, 2, 1, 0, 4, 4, 2, 1, 0]),
    ((TOTAL, 1, 0), [0, 7000]),
    ((DISCLOSE, 8, 4), [0, 0, 0, 0, 0, 10000, 0, 0, 0, 0, 0, 0]),
    ((TICK, 12), [0, 3]),
    ((TICK, 12001), [-1]),
    ((SUMS,), [0, 12, 9, 0, 0, 4, 3, 2, 7]),
]
EXAMPLE = flat([call for call, answer in TOLD])
EXAMPLE_ANSWERS = flat([[len(answer)] + answer for call, answer in TOLD])


class Unchangeable(list):
    """A list that fails at the very try to change it."""

    def refuse(self, *args, **kwargs):
        raise AssertionError("what is handed in was changed")

    append = extend = insert = pop = remove = clear = sort = reverse = refuse
    __setitem__ = __delitem__ = __iadd__ = __imul__ = refuse


class InterfaceTest(unittest.TestCase):
    def test_each_answer_has_its_length_ahead(self):
        self.assertEqual(answers(list(EXAMPLE)), EXAMPLE_ANSWERS)

    def test_one_call(self):
        self.assertEqual(answers([OPEN, 1, 0]), [1, 0])
        self.assertEqual(answers([ACCOUNT]), [1, -2])

    def test_what_is_handed_in_stays_as_it_is(self):
        calls = list(EXAMPLE)
        answers(calls)
        self.assertEqual(calls, EXAMPLE)
        self.assertEqual(answers(Unchangeable(EXAMPLE)), EXAMPLE_ANSWERS)

    def test_a_second_time_answers_as_the_first(self):
        first = answers(list(EXAMPLE))
        copy = list(first)
        # What was given back is the caller's own: changing it must not show in the next answers.
        first.clear()
        self.assertEqual(answers(list(EXAMPLE)), copy)
        self.assertEqual(answers([OPEN, 5, 5]), [1, 0])
        self.assertEqual(answers(list(EXAMPLE)), copy)

    def test_a_list_of_plain_ints(self):
        result = answers(list(EXAMPLE))
        self.assertIs(type(result), list)
        self.assertEqual({type(number) for number in result}, {int})

    def test_prints_nothing(self):
        out = io.StringIO()
        with contextlib.redirect_stdout(out), contextlib.redirect_stderr(out):
            answers(list(EXAMPLE))
        self.assertEqual(out.getvalue(), "")

    def test_400_calls(self):
        rows = ask_all((OPEN, 12, 3), *[(ACCOUNT,)] * 399)
        self.assertEqual(len(rows), 400)
        self.assertEqual(rows[1:33], [[0, number] for number in range(1, 33)])
        self.assertEqual(rows[33:], [[-4]] * 367)

    def test_256_runs(self):
        """Every second number is moved, until there are 255 runs, the last of them 255 to 600."""
        moves = [((MOVE, 1, 2, number, number), [0]) for number in range(2, 256, 2)]
        told = moves + [
            ((SUMS,), [0, 0, 600, 600, 0, 0, 0, 0, 255]),
            ((MOVE, 1, 2, 256, 256), [-4]),
            ((MOVE, 1, 2, 600, 600), [0]),
            ((SUMS,), [0, 0, 600, 600, 0, 0, 0, 0, 256]),
            ((MOVE, 1, 2, 300, 300), [-4]),
            ((CANCEL, 1, 300, 300, 1), [-4]),
            ((OFFER, 1, 2, 300, 300), [-4]),
            ((CANCEL_SOME, 1, ANY, 128, 1), [-4]),
            ((METER, 1, 0, 700000), [0, 100000]),
            ((ISSUE, 1, 0), [-4]),
            ((MOVE, 2, 1, 600, 600), [0]),
            ((ISSUE, 1, 0), [0, 100, 601]),
            ((SUMS,), [0, 0, 700, 700, 0, 0, 0, 0, 255]),
            ((METER, 1, 0, 600500), [0, -99500]),
            ((WITHDRAW, 1, 1), [0, 1, 700, 700]),
            ((OFFER, 1, 2, 300, 300), [-4]),
            ((WITHDRAW, 1, 1), [0, 1, 699, 699]),
            ((SUMS,), [0, 0, 700, 698, 0, 0, 0, 2, 256]),
            ((TICK, 12), [0, 698]),
            ((SUMS,), [0, 12, 700, 0, 0, 0, 698, 2, 256]),
        ]
        rows = ask_all((OPEN, 12, 3), (ACCOUNT,), (ACCOUNT,), (DEVICE, 1, 0), (METER, 1, 0, 600000), (ISSUE, 1, 0),
                       *[call for call, answer in told])
        self.assertEqual(rows[6:], [answer for call, answer in told])


if __name__ == "__main__":
    unittest.main()
