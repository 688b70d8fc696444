import contextlib
import io
import unittest

from origincert.registry import answers
from tests.helper import (ACCEPT, ACCOUNT, ANY, CANCEL, CANCEL_SOME, DEVICE, ISSUE, METER, MOVE, MOVE_SOME, OFFER,
                          OPEN, PASS, ask_all, flat)

EXAMPLE = flat([
    (ACCOUNT,), (OPEN, 12, 3), (ACCOUNT,), (ACCOUNT,), (DEVICE, 1, 4), (METER, 1, 0, 9500), (ISSUE, 1, 0),
    (MOVE, 1, 2, 2, 3), (MOVE_SOME, 1, 2, ANY, 3), (CANCEL, 2, 3, 3, 7), (CANCEL_SOME, 2, 4, 3, 8),
    (OFFER, 1, 2, 7, 8), (ACCEPT, 1), (ACCEPT, 1), (PASS, 1, 2), (MOVE, 0, 2, 2, 3),
])
EXAMPLE_ANSWERS = [
    1, -2, 1, 0, 2, 0, 1, 2, 0, 2, 2, 0, 1, 2, 0, 9500, 3, 0, 9, 1,
    1, 0, 6, 0, 2, 1, 1, 4, 5, 1, 0, 6, 0, 2, 1, 2, 4, 4,
    2, 0, 1, 1, 0, 1, -10, 1, 0, 1, -1,
]


class Unchangeable(list):
    """A list that fails at the very try to change it."""

    def refuse(self, *args, **kwargs):
        raise AssertionError("what is handed in was changed")

    append = extend = insert = pop = remove = clear = sort = reverse = refuse
    __setitem__ = __delitem__ = __iadd__ = __imul__ = refuse


class InterfaceTest(unittest.TestCase):
    def test_each_answer_has_its_length_ahead(self):
        self.assertEqual(answers(list(EXAMPLE)), EXAMPLE_ANSWERS)

    def test_one_call(self):
        self.assertEqual(answers([OPEN, 1, 0]), [1, 0])
        self.assertEqual(answers([ACCOUNT]), [1, -2])

    def test_what_is_handed_in_stays_as_it_is(self):
        calls = list(EXAMPLE)
        answers(calls)
        self.assertEqual(calls, EXAMPLE)
        self.assertEqual(answers(Unchangeable(EXAMPLE)), EXAMPLE_ANSWERS)

    def test_a_second_time_answers_as_the_first(self):
        first = answers(list(EXAMPLE))
        copy = list(first)
        # What was given back is the caller's own: changing it must not show in the next answers.
        first.clear()
        self.assertEqual(answers(list(EXAMPLE)), copy)
        self.assertEqual(answers([OPEN, 5, 5]), [1, 0])
        self.assertEqual(answers(list(EXAMPLE)), copy)

    def test_a_list_of_plain_ints(self):
        result = answers(list(EXAMPLE))
        self.assertIs(type(result), list)
        self.assertEqual({type(number) for number in result}, {int})

    def test_prints_nothing(self):
        out = io.StringIO()
        with contextlib.redirect_stdout(out), contextlib.redirect_stderr(out):
            answers(list(EXAMPLE))
        self.assertEqual(out.getvalue(), "")

    def test_400_calls(self):
        rows = ask_all((OPEN, 12, 3), *[(ACCOUNT,)] * 399)
        self.assertEqual(len(rows), 400)
        self.assertEqual(rows[1:33], [[0, number] for number in range(1, 33)])
        self.assertEqual(rows[33:], [[-4]] * 367)


if __name__ == "__main__":
    unittest.main()
