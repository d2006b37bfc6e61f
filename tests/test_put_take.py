"""Promises 3 and 4: put and take."""

import unittest

from tests.helper import alerts, breakers, claim, last, put, run, status, table, take

TABLE = table("(table t ((n (up 10)) (w (of a b) maybe)) (1 a) (2 b) (3 ()))")
OTHER = table("(table u ((k (up 10))) (1))")


def rows_of(calls):
    """The numbers in column n of t, one by one, as claims see them behind the calls."""
    found = []
    count = last(*calls, claim(0, "o", "(each t (or))"))[1]
    for number in range(10):
        told = last(*calls, claim(0, "o", "(each t (not (same (col n) " + str(number) + ")))"), breakers(0))
        found.extend((place, number) for place in told[2::2])
    assert len(found) == count
    return [number for place, number in sorted(found)]


class Put(unittest.TestCase):
    def test_the_row_stands_behind_the_others(self):
        calls = [TABLE, put("t", "(7 a)"), put("t", "(0 ())")]
        self.assertEqual(run(*calls)[1:], [[3, 0, 0], [4, 0, 0]])
        self.assertEqual(rows_of(calls), [1, 2, 3, 7, 0])

    def test_into_the_table_of_that_name_alone(self):
        calls = [TABLE, OTHER, claim(0, "o", "(key t (n))"), claim(0, "o", "(key u (k))"), put("u", "(1)")]
        self.assertEqual(last(*calls), [1, 1, 0])
        self.assertEqual(last(*calls, status()), [2, 0, 1])

    def test_into_a_table_without_rows(self):
        empty = table("(table t ((n (up 10))))")
        kept = [claim(0, "o", "(next t (or))"), claim(0, "o", "(pairs t (or))"), claim(0, "o", "(each t (or))")]
        calls = [empty, *kept, claim(0, "o", "(any t (and))"), put("t", "(1)")]
        self.assertEqual(last(*calls), [0, 1, 1])
        self.assertEqual(last(*calls, put("t", "(1)")), [1, 2, 0])

    def test_turned_broken_and_turned_held(self):
        kept = [claim(0, "o", "(key t (n))"), claim(0, "o", "(any t (same (col n) 3))"), claim(0, "o", "(refers u (k) t (n))")]
        calls = [TABLE, OTHER, *kept, put("u", "(5)"), put("t", "(5 ())"), put("t", "(5 ())"), put("t", "(5 ())")]
        self.assertEqual(run(*calls)[5:], [[1, 1, 0], [3, 0, 1], [4, 1, 0], [5, 0, 0]])

    def test_what_it_answers_counts_turns_not_breakers(self):
        calls = [table("(table t ((n (up 2))) (0))"), claim(0, "o", "(key t (n))"), put("t", "(0)"), put("t", "(0)")]
        self.assertEqual(run(*calls, status())[2:], [[1, 1, 0], [2, 0, 0], [1, 3]])

    def test_40_rows_and_41(self):
        rows = " (1)" * 39
        calls = [table("(table t ((n (up 2)))" + rows + ")"), put("t", "(0)"), put("t", "(0)")]
        self.assertEqual(run(*calls)[1:], [[39, 0, 0], [-6]])
        self.assertEqual(run(*calls, take(3, "t"), put("t", "(0)"))[3:], [[39, 0, 0], [39, 0, 0]])

    def test_refusals(self):
        for name in ["u", "T", "tt", "", " t", "t ", [0], [116, 0], "t" * 6000, "(t)", "t\n"]:
            self.assertEqual(last(TABLE, put(name, "(1 a)")), [-3], name)
        for text in ["", "(", "(1 a) 2", "(01 a)", "(1 a))", "(1 a_)", [255]]:
            self.assertEqual(last(TABLE, put("t", text)), [-1], text)
        for text in ["1", "a", "((1) a)", "(1 (a))", "(1 a (()))", "((()) a)", "(1 (a b))"]:
            self.assertEqual(last(TABLE, put("t", text)), [-2], text)
        for text in ["()", "(1)", "(1 a a)", "(10 a)", "(a a)", "(1 c)", "(1 1)", "(() a)", "(1 a ())"]:
            self.assertEqual(last(TABLE, put("t", text)), [-4], text)

    def test_the_refusal_told_first(self):
        full = table("(table t ((n (up 10)))" + " (1)" * 40 + ")")
        self.assertEqual(last(full, put("u", "(")), [-3])
        self.assertEqual(last(full, put("u", "1")), [-3])
        self.assertEqual(last(full, put("t", "(")), [-1])
        self.assertEqual(last(full, put("t", "1")), [-2])
        self.assertEqual(last(full, put("t", "((1) 2)")), [-2])
        self.assertEqual(last(full, put("t", "(10)")), [-4])
        self.assertEqual(last(full, put("t", "(9)")), [-6])

    def test_behind_a_refusal_the_object_is_as_it_was(self):
        kept = [TABLE, claim(2, "o", "(key t (n))"), claim(1, "o", "(groups t () (count) 4 9)")]
        for name, text in [("u", "(1 a)"), ("t", "("), ("t", "1"), ("t", "(1)"), ("t", "(1 c)")]:
            calls = [*kept, put(name, text)]
            self.assertLess(last(*calls)[0], 0)
            self.assertEqual(run(*calls, status(), alerts(0), put("t", "(1 a)"))[-3:], [[2, 0, 1], [1, 1, 1], [3, 1, 1]])
            self.assertEqual(rows_of([TABLE, put(name, text)]), [1, 2, 3])


class Take(unittest.TestCase):
    def test_those_behind_have_numbers_one_less(self):
        for number, wanted in [(0, [2, 3]), (1, [1, 3]), (2, [1, 2])]:
            self.assertEqual(last(TABLE, take(number, "t")), [2, 0, 0])
            self.assertEqual(rows_of([TABLE, take(number, "t")]), wanted)

    def test_until_none_is_left(self):
        calls = [TABLE, claim(0, "o", "(any t (and))"), take(0, "t"), take(0, "t"), take(0, "t"), take(0, "t")]
        self.assertEqual(run(*calls)[2:], [[2, 0, 0], [1, 0, 0], [0, 1, 0], [-4]])

    def test_breakers_are_renumbered(self):
        rows = "(1) (2) (1) (2) (3)"
        calls = [table("(table t ((n (up 5))) " + rows + ")"), claim(0, "o", "(key t (n))"), claim(0, "o", "(each t (less 2 (col n)))")]
        self.assertEqual(run(*calls, take(0, "t"), breakers(0), breakers(1))[3:], [[4, 0, 0], [1, 2, 0, 2], [3, 1, 0, 1, 1, 1, 2]])
        self.assertEqual(run(*calls, take(1, "t"), breakers(0), breakers(1))[3:], [[4, 0, 0], [1, 2, 0, 1], [3, 1, 0, 1, 1, 1, 2]])
        self.assertEqual(run(*calls, take(4, "t"), breakers(0), breakers(1))[3:], [[4, 0, 0], [2, 2, 0, 2, 2, 1, 3], [4, 1, 0, 1, 1, 1, 2, 1, 3]])

    def test_next_meets_new_neighbours(self):
        calls = [table("(table t ((n (up 9))) (1) (5) (2) (3))"), claim(0, "o", "(next t (less (one n) (two n)))")]
        self.assertEqual(run(*calls, breakers(0), take(1, "t"))[2:], [[1, 2, 1, 2], [3, 0, 1]])
        self.assertEqual(run(*calls, take(2, "t"), breakers(0))[2:], [[3, 0, 0], [1, 2, 1, 2]])
        self.assertEqual(run(*calls, take(0, "t"), breakers(0))[2:], [[3, 0, 0], [1, 2, 0, 1]])
        self.assertEqual(run(*calls, take(3, "t"), breakers(0))[2:], [[3, 0, 0], [1, 2, 1, 2]])

    def test_a_row_that_others_refer_to(self):
        calls = [TABLE, OTHER, claim(0, "o", "(refers u (k) t (n))"), claim(0, "o", "(refers t (n) t (n))")]
        self.assertEqual(run(*calls, take(0, "t"), breakers(0))[4:], [[2, 1, 0], [1, 1, 0]])
        self.assertEqual(run(*calls, take(0, "t"), put("t", "(1 a)"), status())[5:], [[2, 0, 1], [2, 0, 0]])
        self.assertEqual(run(*calls, put("t", "(1 a)"), take(0, "t"), status())[5:], [[3, 0, 0], [2, 0, 0]])

    def test_a_table_that_refers_to_itself(self):
        calls = [table("(table t ((n (up 9)) (up (up 9) maybe)) (1 ()) (2 1) (3 1) (4 4))"), claim(0, "o", "(refers t (up) t (n))")]
        self.assertEqual(run(*calls, take(0, "t"), breakers(0))[1:], [[0, 0], [3, 1, 0], [2, 1, 0, 1, 1]])
        self.assertEqual(run(*calls, take(3, "t"), put("t", "(5 4)"), take(3, "t"))[2:], [[3, 0, 0], [3, 1, 0], [3, 0, 1]])

    def test_groups_come_and_go(self):
        calls = [table("(table t ((n (up 9)) (g (of a b))) (4 a) (5 b) (6 a))"), claim(0, "o", "(groups t (g) (sum n) 0 9)")]
        self.assertEqual(run(*calls, breakers(0), take(0, "t"), put("t", "(5 b)"), breakers(0))[2:],
                         [[1, 2, 0, 2], [2, 0, 1], [2, 1, 0], [1, 2, 0, 2]])

    def test_refusals(self):
        for name in ["u", "", "T", "t ", [0], "t" * 6000]:
            self.assertEqual(last(TABLE, take(0, name)), [-3], name)
        for number in [-1, 3, 4, -3, 40, 10 ** 18, -10 ** 18]:
            self.assertEqual(last(TABLE, take(number, "t")), [-4], number)
        self.assertEqual(last(table("(table t ((n (up 2))))"), take(0, "t")), [-4])

    def test_the_refusal_told_first(self):
        self.assertEqual(last(TABLE, take(-1, "u")), [-3])

    def test_behind_a_refusal_the_object_is_as_it_was(self):
        for number, name in [(3, "t"), (-1, "t"), (0, "u")]:
            calls = [TABLE, take(number, name)]
            self.assertEqual(rows_of(calls), [1, 2, 3])
            kept = [TABLE, claim(0, "o", "(groups t () (count) 3 3)"), take(number, name), status(), take(0, "t")]
            self.assertEqual(run(*kept)[3:], [[1, 0], [2, 1, 0]])


if __name__ == "__main__":
    unittest.main()
