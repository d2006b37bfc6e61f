"""Promise 7: turns."""

import unittest

from tests.helper import claim, day, last, put, run, status, table, take, told_turns, turns, undo

TABLE = table("(table t ((n (up 5))))")


def any_claims(count):
    """So many claims that hold while the table has a row."""
    return [claim(0, "o", "(any t (and))") for number in range(count)]


def changes(count):
    return [take(0, "t") if number % 2 else put("t", "(1)") for number in range(count)]


def all_turns(claims, count):
    told = [(0, number, "broken") for number in range(claims)]
    for change in range(count):
        told.extend((0, number, "broken" if change % 2 else "held") for number in range(claims))
    return told


def written(told):
    return " ".join("(%d %d %s)" % turn for turn in told)


class Turns(unittest.TestCase):
    def test_none_at_all_is_the_number_alone(self):
        self.assertEqual(last(turns()), [0])
        self.assertEqual(last(TABLE, claim(0, "o", "(key t (n))"), put("t", "(1)"), day(), turns()), [0])

    def test_a_claim_that_is_broken_when_it_comes(self):
        self.assertEqual(told_turns(TABLE, *any_claims(1)), (1, "(0 0 broken)"))
        self.assertEqual(told_turns(TABLE, day(), claim(0, "o", "(key t (n))"), *any_claims(1)), (1, "(1 1 broken)"))

    def test_broken_and_held_again(self):
        calls = [TABLE, claim(0, "o", "(key t (n))"), put("t", "(1)"), put("t", "(1)"), take(0, "t"), put("t", "(1)")]
        self.assertEqual(told_turns(*calls[:3]), (0, ""))
        self.assertEqual(told_turns(*calls[:4]), (1, "(0 0 broken)"))
        self.assertEqual(told_turns(*calls[:5]), (2, "(0 0 broken) (0 0 held)"))
        self.assertEqual(told_turns(*calls), (3, "(0 0 broken) (0 0 held) (0 0 broken)"))

    def test_what_stays_broken_does_not_turn(self):
        calls = [TABLE, claim(0, "o", "(key t (n))"), put("t", "(1)"), put("t", "(1)"), put("t", "(1)"), take(2, "t")]
        self.assertEqual(run(*calls)[-2:], [[2, 0, 0], [2, 0, 0]])
        self.assertEqual(told_turns(*calls), (1, "(0 0 broken)"))

    def test_other_breakers_as_many_are_no_turn(self):
        calls = [TABLE, claim(0, "o", "(next t (same (one n) (two n)))"), put("t", "(1)"), put("t", "(2)"),
                 put("t", "(1)"), take(1, "t")]
        self.assertEqual(told_turns(*calls), (2, "(0 0 broken) (0 0 held)"))
        calls[-1] = take(0, "t")
        self.assertEqual(told_turns(*calls), (1, "(0 0 broken)"))

    def test_several_of_one_call_in_the_claims_order(self):
        calls = [TABLE, claim(0, "o", "(groups t () (count) 0 1)"), claim(2, "a", "(any t (same (col n) 2))"),
                 claim(1, "b", "(key t (n))"), put("t", "(1)"), put("t", "(1)"), put("t", "(2)"), take(1, "t"),
                 take(1, "t")]
        wanted = "(0 1 broken) (0 0 broken) (0 2 broken) (0 1 held) (0 2 held) (0 0 held) (0 1 broken)"
        self.assertEqual(told_turns(*calls), (7, wanted))
        self.assertEqual(run(*calls)[4:], [[0, 0, 0], [1, 2, 0], [2, 0, 1], [2, 0, 1], [1, 1, 1]])

    def test_the_day_that_each_one_tells(self):
        calls = [TABLE, *any_claims(1), day(), put("t", "(1)"), day(), day(), take(0, "t")]
        self.assertEqual(told_turns(*calls), (3, "(0 0 broken) (1 0 held) (3 0 broken)"))

    def test_days_and_claims_of_two_digits(self):
        calls = [TABLE, *[day() for number in range(12)], *any_claims(12)]
        self.assertEqual(told_turns(*calls), (12, written([(12, number, "broken") for number in range(12)])))

    def test_the_last_day_that_a_list_can_tell(self):
        calls = [TABLE, *[day() for number in range(57)], *any_claims(1)]
        self.assertEqual(told_turns(*calls), (1, "(57 0 broken)"))

    def test_a_day_turns_nothing(self):
        self.assertEqual(told_turns(TABLE, *any_claims(2), day(), day()), (2, "(0 0 broken) (0 1 broken)"))

    def test_refused_calls_turn_nothing(self):
        calls = [TABLE, *any_claims(1), put("t", "(9)"), put("u", "(1)"), take(0, "t"), claim(0, "o", "(any t)"),
                 claim(0, "9", "(any t (or))"), TABLE]
        self.assertTrue(all(answer[0] < 0 for answer in run(*calls)[2:]))
        self.assertEqual(told_turns(*calls), (1, "(0 0 broken)"))


class ManyTurns(unittest.TestCase):
    def test_99_100_and_101(self):
        # Each claim turns when it comes, and with each change.
        for claims, count, total in [(9, 10, 99), (10, 9, 100)]:
            told = all_turns(claims, count)
            self.assertEqual(len(told), total)
            self.assertEqual(told_turns(TABLE, *any_claims(claims), *changes(count)), (total, written(told)))
        calls = [TABLE, *any_claims(10), *changes(9), claim(0, "o", "(any t (or))")]
        self.assertEqual(told_turns(*calls), (101, written(all_turns(10, 9)[1:] + [(0, 10, "broken")])))

    def test_the_last_100_within_one_calls_turns(self):
        for claims, count in [(11, 9), (12, 20), (12, 46)]:
            told = all_turns(claims, count)
            self.assertGreater(len(told), 100)
            found = told_turns(TABLE, *any_claims(claims), *changes(count))
            self.assertEqual(found, (len(told), written(told[-100:])))

    def test_undo_brings_earlier_ones_back(self):
        calls = [TABLE, *any_claims(12), *changes(10)]
        self.assertEqual(told_turns(*calls, undo(), undo()), (108, written(all_turns(12, 8)[-100:])))
        self.assertEqual(told_turns(*calls, *[undo() for number in range(3)]), (96, written(all_turns(12, 7))))


class TellingTurnsChangesNothing(unittest.TestCase):
    def test_asked_again_the_same_is_told(self):
        calls = [TABLE, *any_claims(3), put("t", "(1)")]
        found = run(*calls, turns(), turns(), status(), turns(), undo(), turns())
        self.assertEqual(found[-6], found[-5])
        self.assertEqual(found[-6], found[-3])
        self.assertEqual(found[-1], last(*calls[:-1], turns()))


if __name__ == "__main__":
    unittest.main()
