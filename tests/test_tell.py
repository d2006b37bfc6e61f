"""Promises 5 and 6: status, breakers, alerts and owned."""

import unittest

from tests.helper import alerts, breakers, claim, last, owned, put, run, status, table, take

TABLE = table("(table t ((n (up 10))) (1) (2) (1) (2) (1))")
KEPT = [
    TABLE,
    claim(1, "ann", "(key t (n))"),
    claim(0, "bob", "(each t (less (col n) 2))"),
    claim(2, "ann", "(any t (same (col n) 9))"),
    claim(2, "cid", "(each t (and))"),
    claim(1, "cid", "(groups t (n) (count) 3 3)"),
]


class Status(unittest.TestCase):
    def test_of_none(self):
        self.assertEqual(last(status()), [0])
        self.assertEqual(last(TABLE, status()), [0])

    def test_each_claims_breakers_in_order(self):
        self.assertEqual(last(*KEPT, status()), [5, 4, 2, 1, 0, 1])


class Breakers(unittest.TestCase):
    def test_each_claims(self):
        self.assertEqual(last(*KEPT, breakers(0)), [4, 2, 0, 2, 2, 0, 4, 2, 1, 3, 2, 2, 4])
        self.assertEqual(last(*KEPT, breakers(1)), [2, 1, 1, 1, 3])
        self.assertEqual(last(*KEPT, breakers(2)), [1, 0])
        self.assertEqual(last(*KEPT, breakers(3)), [0])
        self.assertEqual(last(*KEPT, breakers(4)), [1, 2, 1, 3])

    def test_in_order_behind_a_put(self):
        self.assertEqual(last(*KEPT, put("t", "(2)"), breakers(0)),
                         [6, 2, 0, 2, 2, 0, 4, 2, 1, 3, 2, 1, 5, 2, 2, 4, 2, 3, 5])

    def test_groups_stand_by_their_first_rows(self):
        calls = [TABLE, claim(0, "o", "(groups t (n) (count) 9 9)"), put("t", "(0)"), put("t", "(0)")]
        self.assertEqual(last(*calls, breakers(0)), [3, 3, 0, 2, 4, 2, 1, 3, 2, 5, 6])
        self.assertEqual(last(*calls, take(0, "t"), breakers(0)), [3, 2, 0, 2, 2, 1, 3, 2, 4, 5])

    def test_the_most_that_there_can_be(self):
        told = last(table("(table t ((n (up 2)))" + " (1)" * 40 + ")"), claim(0, "o", "(key t (n))"), breakers(0))
        wanted = [780]
        for first in range(40):
            for second in range(first + 1, 40):
                wanted.extend([2, first, second])
        self.assertEqual(told, wanted)

    def test_no_such_claim(self):
        for number in [-1, 5, 6, 12, 10 ** 18, -10 ** 18]:
            self.assertEqual(last(*KEPT, breakers(number)), [-3], number)
        self.assertEqual(last(breakers(0)), [-3])


class Alerts(unittest.TestCase):
    def test_broken_ones_of_the_level_or_more(self):
        self.assertEqual(last(*KEPT, alerts(0)), [4, 0, 1, 1, 0, 2, 2, 4, 1])
        self.assertEqual(last(*KEPT, alerts(1)), [3, 0, 1, 2, 2, 4, 1])
        self.assertEqual(last(*KEPT, alerts(2)), [1, 2, 2])

    def test_of_none(self):
        self.assertEqual(last(alerts(0)), [0])
        self.assertEqual(last(TABLE, claim(2, "o", "(each t (and))"), alerts(0)), [0])

    def test_as_rows_come_and_go(self):
        calls = [*KEPT, put("t", "(9)"), alerts(2), take(5, "t"), alerts(2)]
        self.assertEqual(run(*calls)[-3:], [[0], [5, 1, 0], [1, 2, 2]])

    def test_wrong_levels(self):
        for level in [-1, 3, 10 ** 18, -10 ** 18]:
            self.assertEqual(last(*KEPT, alerts(level)), [-7], level)
            self.assertEqual(last(alerts(level)), [-7], level)


class Owned(unittest.TestCase):
    def test_the_owners_claims_in_order(self):
        self.assertEqual(last(*KEPT, owned("ann")), [2, 0, 4, 2, 1])
        self.assertEqual(last(*KEPT, owned("bob")), [1, 1, 2])
        self.assertEqual(last(*KEPT, owned("cid")), [2, 3, 0, 4, 1])

    def test_an_owner_with_none(self):
        for owner in ["dan", "an", "annn", "Ann", "ANN", "t", "n"]:
            self.assertEqual(last(*KEPT, owned(owner)), [0], owner)
        self.assertEqual(last(owned("ann")), [0])

    def test_an_owner_that_is_no_word(self):
        for owner in ["", " ", "ann ", " ann", "ann\n", "(ann)", "9", "0", "-", "ann bob", "a" * 21, [0], [255], [97, 0],
                      [97, 110, 110, 128], [63], [40] * 6000, [97] * 6000]:
            self.assertEqual(last(*KEPT, owned(owner)), [0], owner)

    def test_owners_with_every_sign_and_the_most_bytes(self):
        owners = ["a", "Z", "a-.9Z", "a" * 20, "a" * 19 + "b", "b--", "b.."]
        calls = [TABLE] + [claim(0, owner, "(key t (n))") for owner in owners]
        for number, owner in enumerate(owners):
            self.assertEqual(last(*calls, owned(owner)), [1, number, 4], owner)

    def test_12_claims_of_one(self):
        calls = [TABLE] + [claim(0, "o", "(key t (n))") for number in range(12)]
        wanted = [12]
        for number in range(12):
            wanted.extend([number, 4])
        self.assertEqual(last(*calls, owned("o")), wanted)

    def test_as_rows_come_and_go(self):
        found = run(*KEPT, put("t", "(9)"), owned("ann"), take(0, "t"), owned("ann"), owned("bob"))
        self.assertEqual([found[-4], found[-2], found[-1]], [[2, 0, 4, 2, 0], [2, 0, 2, 2, 0], [1, 1, 3]])

    def test_a_refused_claim_is_nobodys(self):
        self.assertEqual(last(*KEPT, claim(3, "ann", "(key t (n))"), claim(0, "ann", "(key t (m))"), owned("ann")),
                         [2, 0, 4, 2, 1])


class TellingChangesNothing(unittest.TestCase):
    def test_asked_again_the_same_is_told(self):
        asked = [status(), breakers(0), breakers(9), alerts(1), alerts(7), owned("ann"), owned("")]
        found = run(*KEPT, *asked, *asked, take(0, "t"))
        self.assertEqual(found[6:13], found[13:20])
        self.assertEqual(found[-1], last(*KEPT, take(0, "t")))


if __name__ == "__main__":
    unittest.main()
