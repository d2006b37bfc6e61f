"""The document's Examples, from the first table to the last status."""

import unittest

from claimskept.claims import answers
from tests.helper import (
    alerts, breakers, claim, day, drift, history, owned, put, run, shown, split, status, table, take, text_numbers,
    turns, undo,
)

TURNS = ("(0 1 broken) (0 3 broken) (0 1 held) (0 0 broken) (0 2 broken) "
         "(1 0 held) (1 2 held) (1 3 held) (1 1 broken)")
SHOWN = "(table p ((id (up 100)) (boss (up 100) maybe) (pay (up 1000))) (1 () 500) (3 2 600))"
STEPS = [
    (table("(table p ((id (up 100)) (boss (up 100) maybe) (pay (up 1000))) (1 () 500))"), [3, 1]),
    (claim(2, "ann", "(key p (id))"), [0, 0]),
    (claim(1, "bob", "(refers p (boss) p (id))"), [1, 0]),
    (claim(0, "ann", "(groups p () (count) 0 3)"), [2, 0]),
    (claim(1, "bob", "(next p (not (less (two pay) (one pay))))"), [3, 0]),
    (put("p", "(2 3 400)"), [1, 2, 0]),
    (put("p", "(3 2 600)"), [2, 0, 1]),
    (put("p", "(2 () 700)"), [3, 2, 0]),
    (status(), [4, 1, 0, 1, 1]),
    (breakers(0), [1, 2, 1, 3]),
    (breakers(2), [1, 4, 0, 1, 2, 3]),
    (alerts(1), [2, 0, 2, 3, 1]),
    (owned("ann"), [2, 0, 1, 2, 1]),
    (day(), [0, 3]),
    (take(1, "p"), [3, 0, 3]),
    (take(2, "p"), [2, 1, 0]),
    (turns(), [9] + text_numbers(TURNS)),
    (history(0), [1, 1]),
    (drift(0, 0), [0, 1, 0]),
    (drift(0, 1), [1, 1, 0]),
    (shown("p"), text_numbers(SHOWN)),
    (undo(), [9]),
    (status(), [4, 0, 0, 0, 0]),
]


class Examples(unittest.TestCase):
    def test_answers_one_by_one(self):
        found = run(*[call for call, wanted in STEPS])
        for (call, wanted), answer in zip(STEPS, found):
            self.assertEqual(answer, wanted, call)

    def test_the_one_list_number_by_number(self):
        calls = []
        wanted = []
        for call, answer in STEPS:
            calls.extend(call)
            wanted.extend([len(answer)] + answer)
        self.assertEqual(answers(calls), wanted)

    def test_behind_the_last_take(self):
        found = run(*[call for call, wanted in STEPS[:16]], status(), breakers(1), alerts(0), alerts(2))
        self.assertEqual(found[-4:], [[4, 0, 1, 0, 0], [1, 1, 1], [1, 1, 1], [0]])

    def test_behind_the_last_status(self):
        found = run(*[call for call, wanted in STEPS], turns(), shown("p"))
        self.assertEqual(found[-2], [8] + text_numbers(TURNS[:-len(" (1 1 broken)")]))
        self.assertEqual(found[-1], text_numbers(SHOWN[:-1] + " (2 () 700))"))

    def test_numbers_as_the_interface_writes_them(self):
        calls = [0, 24] + [ord(sign) for sign in "(table t ((a (up 2))) 1)"] + [4, 5, 0, 6, 0]
        calls.extend([7, 1, 97, 8, 9, 10, 0, 11, 0, 1, 12, 1, 116, 13, 13])
        self.assertEqual(split(answers(calls)),
                         [[-2], [0], [-3], [0], [0], [0], [0, 0], [-3], [-3], [-3], [0], [-9]])


if __name__ == "__main__":
    unittest.main()
