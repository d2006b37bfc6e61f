"""Promise 11: undo."""

import unittest

from tests.helper import (
    alerts, breakers, claim, day, drift, history, last, owned, put, questions, run, shown, status, table, take, told_table,
    told_turns, turns, undo,
)

TABLE = table("(table t ((n (up 9))) (1) (2) (1))")
OTHER = table("(table u ((n (up 9))) (1))")
BASE = [
    TABLE,
    OTHER,
    claim(2, "ann", "(key t (n))"),
    claim(0, "o", "(refers t (n) u (n))"),
    day(),
    put("u", "(3)"),
]
CHANGES = {
    "table": table("(table v ((n (up 9))) (3))"),
    "claim that is broken": claim(1, "ann", "(any t (same (col n) 8))"),
    "claim that holds": claim(1, "ann", "(any t (same (col n) 1))"),
    "put that breaks": put("t", "(7)"),
    "put that mends": put("u", "(2)"),
    "take that breaks": take(0, "u"),
    "take that mends": take(1, "t"),
    "take that mends another": take(0, "t"),
    "day": day(),
}
REFUSED = [
    table("(table t ((n (up 9))))"), table("("), claim(3, "o", "(any t (or))"), claim(0, "o", "(any w (or))"),
    put("t", "(9)"), put("w", "(1)"), put("t", "1"), take(3, "t"), take(-1, "t"), take(0, "w"),
    breakers(9), alerts(3), history(9), drift(0, 1001), drift(9, 0), shown("w"),
]
TELLING = [status(), breakers(0), alerts(0), owned("ann"), turns(), history(0), drift(0, 0), shown("t")]


class EachCall(unittest.TestCase):
    def asked(self, *calls):
        asked = questions("tuvw", 3)
        return run(*calls, *asked)[-len(asked):]

    def test_all_that_it_changed_is_as_it_was(self):
        wanted = self.asked(*BASE)
        for name, change in CHANGES.items():
            self.assertNotEqual(self.asked(*BASE, change), wanted, name)
            self.assertEqual(self.asked(*BASE, change, undo()), wanted, name)

    def test_two_changes_one_undone_and_both(self):
        for name, change in CHANGES.items():
            for other in CHANGES.values():
                if run(*BASE, change, other)[-1][0] < 0:
                    continue
                self.assertEqual(self.asked(*BASE, change, other, undo()), self.asked(*BASE, change), name)
                self.assertEqual(self.asked(*BASE, change, other, undo(), undo()), self.asked(*BASE), name)

    def test_the_same_call_again_answers_the_same(self):
        for name, change in CHANGES.items():
            found = run(*BASE, change, undo(), change)
            self.assertEqual(found[-1], found[-3], name)
            self.assertEqual(self.asked(*BASE, change, undo(), change), self.asked(*BASE, change), name)

    def test_other_calls_behind_an_undo(self):
        for name, change in CHANGES.items():
            for other in CHANGES.values():
                self.assertEqual(self.asked(*BASE, change, undo(), other), self.asked(*BASE, other), name)

    def test_of_each_as_the_first_step(self):
        self.assertEqual(run(TABLE, undo(), status(), shown("t"), undo())[1:], [[0], [0], [-3], [-9]])
        self.assertEqual(run(day(), undo(), day(), undo(), undo()), [[0, 0], [0], [0, 0], [0], [-9]])


class WhatIsUndone(unittest.TestCase):
    def test_a_table(self):
        found = run(TABLE, OTHER, undo(), shown("u"), put("u", "(1)"), OTHER, table("(table v ((n (up 2))))"),
                    table("(table w ((n (up 2))))"), undo(), table("(table w ((n (up 2))))"))
        self.assertEqual(found[2:], [[1], [-3], [-3], [1, 1], [1, 0], [-6], [2], [1, 0]])

    def test_a_claim(self):
        calls = [TABLE, claim(0, "ann", "(key t (n))"), claim(0, "bob", "(any t (or))"), undo()]
        found = run(*calls, status(), owned("bob"), breakers(1), history(1), claim(2, "cid", "(any t (and))"), owned("cid"))
        self.assertEqual(found[3:], [[2], [1, 1], [0], [-3], [-3], [1, 0], [1, 1, 0]])
        self.assertEqual(told_turns(*calls), (1, "(0 0 broken)"))

    def test_the_twelfth_claim(self):
        calls = [TABLE] + [claim(0, "o", "(key t (n))") for number in range(12)]
        found = run(*calls, calls[-1], undo(), calls[-1], calls[-1])
        self.assertEqual(found[-4:], [[-6], [9], [11, 1], [-6]])

    def test_a_put(self):
        calls = [TABLE, claim(0, "o", "(key t (n))"), put("t", "(2)"), undo()]
        self.assertEqual(run(*calls, breakers(0), put("t", "(1)"), breakers(0))[4:],
                         [[1, 2, 0, 2], [3, 0, 0], [3, 2, 0, 2, 2, 0, 3, 2, 2, 3]])
        self.assertEqual(told_table("t", *calls), "(table t ((n (up 9))) (1) (2) (1))")

    def test_the_fortieth_row(self):
        calls = [table("(table t ((n (up 9)))" + " (1)" * 39 + ")"), put("t", "(1)"), put("t", "(1)"), undo(), put("t", "(2)")]
        self.assertEqual(run(*calls)[1:], [[39, 0, 0], [-6], [1], [39, 0, 0]])

    def test_a_take(self):
        calls = [TABLE, claim(0, "o", "(key t (n))"), take(0, "t"), undo()]
        self.assertEqual(run(*calls, status(), breakers(0), take(2, "t"))[3:], [[2], [1, 1], [1, 2, 0, 2], [2, 0, 1]])
        self.assertEqual(told_table("t", *calls), "(table t ((n (up 9))) (1) (2) (1))")
        self.assertEqual(told_turns(*calls), (1, "(0 0 broken)"))

    def test_a_day(self):
        calls = [TABLE, claim(0, "o", "(key t (n))"), day(), day(), take(0, "t"), day(), undo()]
        self.assertEqual(run(*calls, history(0), drift(0, 0), day(), history(0))[5:],
                         [[2, 0], [5], [2, 1, 1], [0, 1, 0], [2, 0], [3, 1, 1, 0]])
        self.assertEqual(told_turns(*calls, put("t", "(1)")), (3, "(0 0 broken) (2 0 held) (2 0 broken)"))

    def test_the_day_that_is_told_behind_a_day_undone(self):
        calls = [TABLE, claim(0, "o", "(key t (n))"), day(), undo(), take(0, "t")]
        self.assertEqual(told_turns(*calls), (2, "(0 0 broken) (0 0 held)"))

    def test_a_claim_anew_has_no_history_of_the_one_undone(self):
        calls = [TABLE, claim(0, "o", "(key t (n))"), day(), undo(), undo(), day(), claim(0, "o", "(any t (or))")]
        self.assertEqual(run(*calls, history(0), drift(0, 0), breakers(0))[-3:], [[0], [-9], [1, 0]])


class HowMany(unittest.TestCase):
    def test_of_nothing_at_a_new_object(self):
        self.assertEqual(run(undo(), undo(), status(), undo()), [[-9], [-9], [0], [-9]])

    def test_as_many_as_there_were(self):
        for count in range(1, 11):
            calls = [day() for number in range(count)] + [undo() for number in range(count + 2)]
            self.assertEqual(run(*calls)[count:], [[left] for left in range(count - 1, -1, -1)] + [[-9], [-9]])

    def test_10_steps_and_an_eleventh(self):
        for count in [10, 11, 12, 25, 40]:
            calls = [TABLE] + [day() for number in range(count)] + [undo() for number in range(11)]
            self.assertEqual(run(*calls)[-11:], [[left] for left in range(9, -1, -1)] + [[-9]])
            self.assertEqual(last(*calls, day()), [count - 10, 0])

    def test_new_calls_behind_undos(self):
        calls = [day() for number in range(12)] + [undo() for number in range(4)]
        self.assertEqual(last(*calls), [6])
        found = run(*calls, TABLE, put("t", "(1)"), undo(), undo(), undo())
        self.assertEqual(found[-3:], [[7], [6], [5]])
        found = run(*calls, TABLE, *[put("t", "(1)") for number in range(9)], *[undo() for number in range(11)])
        self.assertEqual(found[-11:], [[left] for left in range(9, -1, -1)] + [[-9]])

    def test_behind_minus_9_steps_are_had_again(self):
        found = run(undo(), day(), undo(), undo(), day(), day(), undo())
        self.assertEqual(found, [[-9], [0, 0], [0], [-9], [0, 0], [1, 0], [1]])

    def test_steps_back_over_all_kinds_of_calls(self):
        calls = [TABLE, claim(0, "ann", "(key t (n))"), take(0, "t"), day(), put("t", "(2)"), OTHER,
                 claim(1, "o", "(refers t (n) u (n))"), day(), take(0, "u"), put("u", "(2)")]
        for count in range(11):
            asked = questions("tu", 2)
            found = run(*calls, *[undo() for number in range(count)], *asked)
            self.assertEqual(found[-len(asked):], run(*calls[:len(calls) - count], *asked)[-len(asked):], count)


class NoSteps(unittest.TestCase):
    def test_calls_that_only_tell(self):
        found = run(*BASE, CHANGES["day"], *TELLING, undo(), *TELLING, undo())
        self.assertEqual([found[-10], found[-1]], [[6], [5]])
        self.assertEqual(last(*TELLING, undo()), [-9])

    def test_refused_calls(self):
        found = run(*BASE, *REFUSED, undo())
        self.assertTrue(all(answer[0] < 0 and len(answer) == 1 for answer in found[len(BASE):-1]))
        self.assertEqual(found[-1], [5])
        self.assertEqual(last(*REFUSED[1:], undo()), [-9])

    def test_refused_for_their_number(self):
        calls = [table("(table %s ((n (up 9))))" % name) for name in "tuv"] + [claim(0, "o", "(key t (n))")]
        found = run(*calls, table("(table w ((n (up 9))))"), undo(), undo(), undo())
        self.assertEqual(found[-4:], [[-6], [3], [2], [1]])

    def test_an_undo_itself_is_none(self):
        calls = [TABLE, put("t", "(5)"), put("t", "(6)"), undo(), undo()]
        self.assertEqual(told_table("t", *calls), "(table t ((n (up 9))) (1) (2) (1))")
        self.assertEqual(run(*calls)[-2:], [[2], [1]])

    def test_a_refused_call_pushes_no_step_out(self):
        calls = [TABLE] + [day() for number in range(10)] + REFUSED + [undo() for number in range(11)]
        found = run(*calls, day())
        self.assertTrue(all(answer[0] < 0 for answer in found[11:11 + len(REFUSED)]))
        self.assertEqual(found[-12:], [[left] for left in range(9, -1, -1)] + [[-9], [0, 0]])

    def test_a_refused_undo_changes_nothing(self):
        calls = [day() for number in range(11)] + [undo() for number in range(10)]
        found = run(*calls, undo(), day())
        self.assertEqual(found[-2:], [[-9], [1, 0]])


class BehindARefusal(unittest.TestCase):
    def test_the_object_is_as_it_was(self):
        asked = questions("tu", 2)
        wanted = run(*BASE, *asked, undo(), *asked)[len(BASE):]
        for refused in REFUSED:
            found = run(*BASE, refused, *asked, undo(), *asked)[len(BASE):]
            self.assertEqual(len(found[0]), 1)
            self.assertLess(found[0][0], 0)
            self.assertEqual(found[1:], wanted, refused)


if __name__ == "__main__":
    unittest.main()
