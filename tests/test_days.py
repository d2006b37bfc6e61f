"""Promises 8 and 9: day, history and drift."""

import unittest

from tests.helper import claim, day, drift, history, last, put, run, status, table, take, told_turns, undo

TABLE = table("(table t ((n (up 50))))")
EACH = claim(1, "ann", "(each t (less (col n) 5))")
BREAK = put("t", "(9)")
HOLD = put("t", "(1)")


def with_breakers(count):
    """A table and a claim with so many breakers: each two rows of the table are one."""
    rows = 0
    while rows * (rows - 1) // 2 < count:
        rows += 1
    assert rows * (rows - 1) // 2 == count
    return [table("(table t ((n (up 50)))" + " (1)" * rows + ")"), claim(0, "o", "(key t (n))")]


class Day(unittest.TestCase):
    def test_days_are_numbered_from_0(self):
        self.assertEqual(run(*[day() for number in range(60)]), [[number, 0] for number in range(60)])

    def test_how_many_claims_are_broken(self):
        calls = [TABLE, EACH, claim(0, "o", "(any t (and))"), day(), BREAK, day(), BREAK, day(), take(0, "t"),
                 take(0, "t"), day()]
        found = run(*calls)
        self.assertEqual([found[number] for number in (3, 5, 7, 10)], [[0, 1], [1, 1], [2, 1], [3, 1]])
        self.assertEqual(last(*calls[:6], claim(0, "o", "(any t (or))"), claim(2, "o", "(key t (n))"), day()), [2, 2])

    def test_a_day_without_claims(self):
        self.assertEqual(run(TABLE, day(), day(), EACH, history(0))[1:], [[0, 0], [1, 0], [0, 0], [0]])

    def test_a_day_changes_no_breakers(self):
        found = run(TABLE, EACH, BREAK, status(), day(), status())
        self.assertEqual(found[3], found[5])

    def test_the_next_day_begins(self):
        self.assertEqual(told_turns(TABLE, EACH, BREAK, day(), take(0, "t")), (2, "(0 0 broken) (1 0 held)"))


class History(unittest.TestCase):
    def test_none_yet(self):
        self.assertEqual(last(TABLE, EACH, BREAK, history(0)), [0])
        self.assertEqual(last(TABLE, day(), EACH, BREAK, history(0)), [0])

    def test_numbers_of_breakers_at_the_ends_of_days(self):
        calls = [TABLE, EACH, day(), BREAK, BREAK, day(), take(0, "t"), day(), day(), take(0, "t"), day(), BREAK]
        self.assertEqual(last(*calls, history(0)), [5, 0, 2, 1, 1, 0])

    def test_what_happens_within_a_day_is_not_told(self):
        self.assertEqual(last(TABLE, EACH, day(), BREAK, take(0, "t"), day(), history(0)), [2, 0, 0])

    def test_a_claim_that_came_behind_some_days(self):
        calls = [TABLE, EACH, BREAK, day(), day(), claim(0, "o", "(any t (or))"), BREAK, day(),
                 claim(0, "o", "(key t (n))"), day()]
        found = run(*calls, history(0), history(1), history(2))
        self.assertEqual(found[-3:], [[4, 1, 1, 2, 2], [2, 1, 1], [1, 1]])

    def test_the_longest(self):
        calls = [TABLE, EACH, BREAK] + [day() for number in range(56)]
        self.assertEqual(last(*calls, history(0)), [56] + [1] * 56)

    def test_the_greatest_number(self):
        self.assertEqual(last(*with_breakers(780), day(), history(0)), [1, 780])

    def test_no_such_claim(self):
        for number in [-1, 1, 2, 12, 10 ** 18, -10 ** 18]:
            self.assertEqual(last(TABLE, EACH, day(), history(number)), [-3], number)
        self.assertEqual(last(history(0)), [-3])
        self.assertEqual(last(day(), history(0)), [-3])

    def test_a_refused_claim_has_none(self):
        self.assertEqual(last(TABLE, claim(7, "o", "(any t (or))"), day(), history(0)), [-3])


class Drift(unittest.TestCase):
    def test_as_many_as_then(self):
        self.assertEqual(last(TABLE, EACH, BREAK, day(), drift(0, 0)), [1, 1, 1])
        self.assertEqual(last(TABLE, EACH, BREAK, day(), BREAK, take(0, "t"), drift(0, 0)), [1, 1, 1])
        self.assertEqual(last(TABLE, EACH, day(), HOLD, drift(0, 0)), [1, 0, 0])

    def test_breakers_that_grew(self):
        calls = [TABLE, EACH, BREAK, day(), BREAK, BREAK, BREAK]
        for most, answer in [(0, 0), (1, 0), (2, 0), (3, 1), (4, 1), (1000, 1)]:
            self.assertEqual(last(*calls, drift(0, most)), [answer, 1, 4], most)

    def test_breakers_that_shrank(self):
        calls = [TABLE, EACH, BREAK, BREAK, BREAK, BREAK, day(), take(0, "t"), take(0, "t"), take(0, "t")]
        for most, answer in [(0, 0), (1, 0), (2, 0), (3, 1), (4, 1), (1000, 1)]:
            self.assertEqual(last(*calls, drift(0, most)), [answer, 4, 1], most)

    def test_the_last_day_is_asked(self):
        calls = [TABLE, EACH, day(), BREAK, BREAK, day(), BREAK, day(), BREAK]
        self.assertEqual(last(*calls, drift(0, 1)), [1, 3, 4])
        self.assertEqual(last(*calls, drift(0, 0)), [0, 3, 4])

    def test_each_claims_own(self):
        calls = [TABLE, EACH, claim(0, "o", "(any t (and))"), claim(0, "o", "(key t (n))"), day(), BREAK, BREAK]
        found = run(*calls, drift(0, 1), drift(1, 1), drift(2, 0))
        self.assertEqual(found[-3:], [[0, 0, 2], [1, 1, 0], [0, 0, 1]])

    def test_many_breakers(self):
        calls = [*with_breakers(780), day()] + [take(0, "t") for number in range(39)]
        for most, answer in [(779, 0), (780, 1), (781, 1)]:
            self.assertEqual(last(*calls, drift(0, most)), [answer, 780, 0], most)

    def test_p_from_0_to_1000(self):
        calls = [TABLE, EACH, BREAK, day()]
        for most in [0, 1, 999, 1000]:
            self.assertEqual(last(*calls, drift(0, most)), [1, 1, 1], most)
        for most in [-1, 1001, 10 ** 18, -10 ** 18]:
            self.assertEqual(last(*calls, drift(0, most)), [-7], most)

    def test_no_such_claim(self):
        for number in [-1, 1, 12, 10 ** 18, -10 ** 18]:
            self.assertEqual(last(TABLE, EACH, day(), drift(number, 0)), [-3], number)
        self.assertEqual(last(day(), drift(0, 1000)), [-3])

    def test_no_day_ended_with_it(self):
        self.assertEqual(last(TABLE, EACH, drift(0, 0)), [-9])
        self.assertEqual(last(TABLE, day(), EACH, drift(0, 0)), [-9])
        found = run(TABLE, EACH, day(), claim(0, "o", "(key t (n))"), drift(0, 0), drift(1, 0), day(), drift(1, 0))
        self.assertEqual([found[4], found[5], found[7]], [[1, 0, 0], [-9], [1, 0, 0]])
        self.assertEqual(last(TABLE, EACH, day(), undo(), drift(0, 0)), [-9])

    def test_refusals_in_their_order(self):
        # -7 ahead of -3 ahead of -9.
        self.assertEqual(last(drift(0, -1)), [-7])
        self.assertEqual(last(drift(0, 1001)), [-7])
        self.assertEqual(last(TABLE, EACH, drift(1, 1001)), [-7])
        self.assertEqual(last(TABLE, EACH, drift(0, 1001)), [-7])
        self.assertEqual(last(TABLE, EACH, drift(0, -1)), [-7])
        self.assertEqual(last(drift(0, 0)), [-3])
        self.assertEqual(last(TABLE, EACH, drift(1, 0)), [-3])
        self.assertEqual(last(TABLE, EACH, drift(-1, 1000)), [-3])

    def test_k_stands_ahead_of_p(self):
        calls = [TABLE, EACH, claim(0, "o", "(any t (and))"), BREAK, day(), take(0, "t")]
        self.assertEqual(last(*calls, drift(1, 0)), [0, 0, 1])
        self.assertEqual(last(*calls, drift(0, 1)), [1, 1, 0])


class TellingDaysChangesNothing(unittest.TestCase):
    def test_asked_again_the_same_is_told(self):
        asked = [history(0), drift(0, 0), drift(0, 5), history(3), drift(3, 3), drift(0, -1)]
        found = run(TABLE, EACH, day(), BREAK, *asked, *asked, day())
        self.assertEqual(found[4:10], found[10:16])
        self.assertEqual(found[-1], [1, 1])


if __name__ == "__main__":
    unittest.main()
