"""The part of the document's Examples that uses table, claim, put, take, status, breakers, alerts."""

import unittest

from claimskept.claims import answers
from tests.helper import alerts, breakers, claim, put, run, split, status, table, take

STEPS = [
    (table("(table p ((id (up 100)) (boss (up 100) maybe) (pay (up 1000))) (1 () 500))"), [3, 1]),
    (claim(2, "ann", "(key p (id))"), [0, 0]),
    (claim(1, "bob", "(refers p (boss) p (id))"), [1, 0]),
    (claim(0, "ann", "(groups p () (count) 0 3)"), [2, 0]),
    (claim(1, "bob", "(next p (not (less (two pay) (one pay))))"), [3, 0]),
    (put("p", "(2 3 400)"), [1, 2, 0]),
    (put("p", "(3 2 600)"), [2, 0, 1]),
    (put("p", "(2 () 700)"), [3, 2, 0]),
    (status(), [4, 1, 0, 1, 1]),
    (breakers(0), [1, 2, 1, 3]),
    (breakers(2), [1, 4, 0, 1, 2, 3]),
    (alerts(1), [2, 0, 2, 3, 1]),
    (take(1, "p"), [3, 0, 3]),
    (take(2, "p"), [2, 1, 0]),
]


class Examples(unittest.TestCase):
    def test_answers_one_by_one(self):
        found = run(*[call for call, wanted in STEPS])
        for (call, wanted), answer in zip(STEPS, found):
            self.assertEqual(answer, wanted, call)

    def test_the_one_list_number_by_number(self):
        calls = []
        wanted = []
        for call, answer in STEPS:
            calls.extend(call)
            wanted.extend([len(answer)] + answer)
        self.assertEqual(answers(calls), wanted)

    def test_before_the_last_take_all_hold(self):
        # The document tells this of the state that an undo of the last take comes back to.
        calls = [call for call, wanted in STEPS[:-1]]
        self.assertEqual(run(*calls, status())[-1], [4, 0, 0, 0, 0])

    def test_behind_the_last_take(self):
        found = run(*[call for call, wanted in STEPS], status(), breakers(1), alerts(0), alerts(2))
        self.assertEqual(found[-4:], [[4, 0, 1, 0, 0], [1, 1, 1], [1, 1, 1], [0]])

    def test_numbers_as_the_interface_writes_them(self):
        calls = [0, 24] + [ord(sign) for sign in "(table t ((a (up 2))) 1)"] + [4, 5, 0, 6, 0]
        self.assertEqual(split(answers(calls)), [[-2], [0], [-3], [0]])


if __name__ == "__main__":
    unittest.main()
