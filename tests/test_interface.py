"""The interface: what is handed in, what is given back, and that nothing is kept from one time to the next."""

import unittest

from claimskept.claims import answers
from tests.helper import (
    alerts, breakers, claim, day, drift, history, last, owned, put, run, shown, split, status, table, take, turns, undo,
)

CALLS = [
    table("(table t ((n (up 10)) (w (of a b) maybe)) (1 a) (2 ()))"),
    claim(1, "ann", "(key t (n))"),
    claim(2, "bob", "(any t (same (col w) (word b)))"),
    put("t", "(1 b)"),
    put("t", "(1 c)"),
    take(0, "t"),
    take(9, "t"),
    status(),
    breakers(0),
    breakers(7),
    alerts(0),
    alerts(3),
    owned("ann"),
    owned(""),
    day(),
    turns(),
    history(0),
    history(7),
    drift(1, 0),
    drift(1, 1001),
    shown("t"),
    shown("u"),
    undo(),
    undo(),
    status(),
]
TURNS = "(0 1 broken) (0 0 broken) (0 1 held) (0 0 held)"
SHOWN = "(table t ((n (up 10)) (w (of a b) maybe)) (2 ()) (1 b))"


def one_list(calls):
    return [number for call in calls for number in call]


class HandedIn(unittest.TestCase):
    def test_the_list_is_as_it_was(self):
        calls = one_list(CALLS)
        copy = list(calls)
        answers(calls)
        self.assertEqual(calls, copy)

    def test_not_changed_for_a_while_either(self):
        class Watched(list):
            def __setitem__(self, key, value):
                raise AssertionError("changed")
            __delitem__ = __setitem__

            def refuse(self, *args):
                raise AssertionError("changed")
            append = extend = insert = pop = remove = clear = sort = reverse = refuse
            __iadd__ = __imul__ = refuse

        self.assertEqual(answers(Watched(one_list(CALLS))), answers(one_list(CALLS)))

    def test_a_second_call_answers_the_same(self):
        calls = one_list(CALLS)
        first = answers(calls)
        self.assertEqual(answers(calls), first)
        answers(one_list([table("(table u ((n (up 10))))"), claim(0, "o", "(any u (or))")]))
        self.assertEqual(answers(calls), first)

    def test_what_is_given_back_is_the_callers(self):
        calls = one_list(CALLS)
        first = answers(calls)
        wanted = list(first)
        first.clear()
        self.assertEqual(answers(calls), wanted)

    def test_every_call_begins_a_list(self):
        calls = [table(""), claim(9, "", ""), put("", ""), take(0, ""), status(), breakers(0), alerts(0), owned(""),
                 turns(), day(), history(0), drift(0, 0), shown(""), undo()]
        wanted = [[1, -1], [1, -7], [1, -3], [1, -3], [1, 0], [1, -3], [1, 0], [1, 0], [1, 0], [2, 0, 0], [1, -3], [1, -3],
                  [1, -3], [1, -9]]
        self.assertEqual([call[0] for call in calls], list(range(14)))
        for call, answer in zip(calls, wanted):
            self.assertEqual(answers(call), answer)


class GivenBack(unittest.TestCase):
    def test_whole_numbers_in_a_list(self):
        told = answers(one_list(CALLS))
        self.assertIs(type(told), list)
        self.assertTrue(all(type(number) is int for number in told))

    def test_how_many_then_they(self):
        self.assertEqual(answers(one_list(CALLS)), [
            2, 2, 2, 2, 0, 0, 2, 1, 1, 3, 2, 1, 1, 1, -4, 3, 2, 0, 1, 1, -4, 3, 2, 0, 0, 1, 0, 1, -3, 1, 0, 1, -7,
            3, 1, 0, 0, 1, 0, 2, 0, 0,
            1 + len(TURNS), 4, *TURNS.encode("ascii"), 2, 1, 0, 1, -3, 3, 1, 0, 0, 1, -7,
            len(SHOWN), *SHOWN.encode("ascii"), 1, -3, 1, 5, 1, 4, 3, 2, 1, 0])

    def test_below_0_only_in_a_refusal(self):
        for answer in split(answers(one_list(CALLS))):
            self.assertTrue(len(answer) == 1 or all(number >= 0 for number in answer))

    def test_a_call_of_no_number_that_is_known(self):
        with self.assertRaises(ValueError):
            answers([99])
        with self.assertRaises(ValueError):
            answers([14])


class Limits(unittest.TestCase):
    def test_the_longest_texts_and_names(self):
        for byte in [0, 32, 40, 41, 48, 97, 255]:
            self.assertEqual(last(table([byte] * 6000)), [-1])
            self.assertEqual(last(claim(0, [byte] * 6000, [byte] * 6000)), [-10])
            self.assertEqual(last(claim(0, "o", [byte] * 6000)), [-1])
            self.assertEqual(last(put([byte] * 6000, [byte] * 6000)), [-3])
            self.assertEqual(last(take(0, [byte] * 6000)), [-3])
            self.assertEqual(last(owned([byte] * 6000)), [0])
            self.assertEqual(last(shown([byte] * 6000)), [-3])

    def test_the_greatest_whole_numbers(self):
        for number in [10 ** 18, -10 ** 18]:
            self.assertEqual(last(claim(number, "o", "(")), [-7])
            self.assertEqual(last(CALLS[0], take(number, "t")), [-4])
            self.assertEqual(last(CALLS[0], CALLS[1], breakers(number)), [-3])
            self.assertEqual(last(alerts(number)), [-7])
            self.assertEqual(last(CALLS[0], CALLS[1], day(), history(number)), [-3])
            self.assertEqual(last(CALLS[0], CALLS[1], day(), drift(number, 0)), [-3])
            self.assertEqual(last(CALLS[0], CALLS[1], day(), drift(0, number)), [-7])
            self.assertEqual(last(drift(number, number)), [-7])

    def test_60_calls(self):
        self.assertEqual(run(*[status() for number in range(60)]), [[0]] * 60)

    def test_the_most_work(self):
        condition = "(or " + "(same (add (one n) (two n)) 0)" * 22 + ")"
        calls = [table("(table t ((n (up 2)))" + " (1)" * 40 + ")")]
        calls.extend(claim(0, "o", "(pairs t " + condition + ")") for number in range(12))
        for number in range(23):
            calls.extend([take(number, "t"), put("t", "(1)")])
        calls.append(status())
        self.assertEqual(last(*calls), [12] + [780] * 12)


if __name__ == "__main__":
    unittest.main()
