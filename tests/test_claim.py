"""Promise 2: claim, and with it what expressions, conditions and claims mean."""

import unittest

from tests.helper import breakers, claim, last, padded, run, status, table

ROWS = "(1 a ()) (2 b 3) (2 a 3) (0 b 9) (1 a ())"
TABLE = table("(table t ((n (up 10)) (w (of a b c)) (m (up 10) maybe)) " + ROWS + ")")
OTHER = table("(table u ((k (up 20)) (v (of a b x) maybe)) (1 a) (2 ()) (9 b))")
EMPTY = table("(table e ((n (up 10)) (m (up 10) maybe)))")


def found(text):
    """The breakers, as lists of rows, of the claim alone on the three tables."""
    kept, told = run(TABLE, OTHER, EMPTY, claim(0, "o", text), breakers(0))[-2:]
    assert kept == [0, told[0]], (text, kept, told)
    sets = []
    place = 1
    while place < len(told):
        sets.append(told[place + 1:place + 1 + told[place]])
        place += 1 + told[place]
    assert len(sets) == told[0]
    return sets


def rows_where(condition):
    """The rows of t for which the condition holds: those that break its contrary."""
    return [rows[0] for rows in found("(each t (not " + condition + "))")]


def refusal(text, level=0, owner="o"):
    return last(TABLE, OTHER, EMPTY, claim(level, owner, text))


class Expressions(unittest.TestCase):
    def test_numbers_words_and_cells(self):
        self.assertEqual(rows_where("(same (col n) 2)"), [1, 2])
        self.assertEqual(rows_where("(same 2 (col n))"), [1, 2])
        self.assertEqual(rows_where("(same (col w) (word b))"), [1, 3])
        self.assertEqual(rows_where("(same (col w) (word n))"), [])
        self.assertEqual(rows_where("(same (word n) (word n))"), [0, 1, 2, 3, 4])

    def test_sums_and_differences(self):
        self.assertEqual(rows_where("(same (add (col n) 1) (col m))"), [1, 2])
        self.assertEqual(rows_where("(same (sub (col m) (col n)) 9)"), [3])
        self.assertEqual(rows_where("(same (sub (col n) (col n)) 0)"), [0, 1, 2, 3, 4])
        self.assertEqual(rows_where("(same (add 1000000 1000000) (add 1000000 (add 999999 1)))"), [0, 1, 2, 3, 4])
        self.assertEqual(rows_where("(less 1000000 (add 1000000 (col n)))"), [0, 1, 2, 4])

    def test_without_a_value(self):
        self.assertEqual(rows_where("(gone (col m))"), [0, 4])
        self.assertEqual(rows_where("(gone (col n))"), [])
        self.assertEqual(rows_where("(gone (col w))"), [])
        self.assertEqual(rows_where("(gone 0)"), [])
        self.assertEqual(rows_where("(gone (word a))"), [])
        self.assertEqual(rows_where("(gone (add (col m) 1))"), [0, 4])
        self.assertEqual(rows_where("(gone (add 1 (col m)))"), [0, 4])
        self.assertEqual(rows_where("(gone (sub (col m) 0))"), [0, 4])
        self.assertEqual(rows_where("(gone (sub 9 (col m)))"), [0, 4])
        self.assertEqual(rows_where("(gone (add (col w) 1))"), [0, 1, 2, 3, 4])
        self.assertEqual(rows_where("(gone (sub 1 (word a)))"), [0, 1, 2, 3, 4])
        self.assertEqual(rows_where("(gone (sub (col n) 1))"), [3])
        self.assertEqual(rows_where("(gone (sub (col n) 2))"), [0, 3, 4])
        self.assertEqual(rows_where("(gone (add (sub (col n) 2) 5))"), [0, 3, 4])


class Conditions(unittest.TestCase):
    def test_less_wants_numbers(self):
        self.assertEqual(rows_where("(less (col n) 2)"), [0, 3, 4])
        self.assertEqual(rows_where("(less (col n) (col m))"), [1, 2, 3])
        self.assertEqual(rows_where("(less (col m) 10)"), [1, 2, 3])
        self.assertEqual(rows_where("(less 0 (col m))"), [1, 2, 3])
        self.assertEqual(rows_where("(less (col w) (word z))"), [])
        self.assertEqual(rows_where("(less (col w) 5)"), [])
        self.assertEqual(rows_where("(less 5 (col w))"), [])

    def test_same_wants_values(self):
        self.assertEqual(rows_where("(same (col m) (col m))"), [1, 2, 3])
        self.assertEqual(rows_where("(same (sub 1 2) (sub 1 2))"), [])
        self.assertEqual(rows_where("(same (col w) 1)"), [])
        self.assertEqual(rows_where("(same (col m) 3)"), [1, 2])

    def test_and_or_not(self):
        self.assertEqual(rows_where("(and)"), [0, 1, 2, 3, 4])
        self.assertEqual(rows_where("(or)"), [])
        self.assertEqual(rows_where("(not (and))"), [])
        self.assertEqual(rows_where("(not (or))"), [0, 1, 2, 3, 4])
        self.assertEqual(rows_where("(and (less 0 (col n)))"), [0, 1, 2, 4])
        self.assertEqual(rows_where("(and (less 0 (col n)) (same (col w) (word a)) (not (gone (col m))))"), [2])
        self.assertEqual(rows_where("(or (same (col n) 0) (gone (col m)) (same (col n) 7))"), [0, 3, 4])
        self.assertEqual(rows_where("(or (or) (and))"), [0, 1, 2, 3, 4])
        self.assertEqual(rows_where("(and (and) (or))"), [])


class Claims(unittest.TestCase):
    def test_each(self):
        self.assertEqual(found("(each t (less (col n) 2))"), [[1], [2]])
        self.assertEqual(found("(each t (and))"), [])
        self.assertEqual(found("(each e (or))"), [])

    def test_any(self):
        self.assertEqual(found("(any t (same (col n) 0))"), [])
        self.assertEqual(found("(any t (same (col n) 1))"), [])
        self.assertEqual(found("(any t (same (col n) 5))"), [[]])
        self.assertEqual(found("(any e (and))"), [[]])

    def test_pairs_look_at_the_one_ahead_first(self):
        self.assertEqual(found("(pairs t (not (less (two n) (one n))))"), [[0, 3], [1, 3], [1, 4], [2, 3], [2, 4]])
        self.assertEqual(found("(pairs t (not (less (one n) (two n))))"), [[0, 1], [0, 2], [3, 4]])
        self.assertEqual(len(found("(pairs t (or))")), 10)
        self.assertEqual(found("(pairs e (or))"), [])

    def test_next_looks_at_neighbours(self):
        self.assertEqual(found("(next t (not (less (two n) (one n))))"), [[2, 3]])
        self.assertEqual(found("(next t (or))"), [[0, 1], [1, 2], [2, 3], [3, 4]])
        self.assertEqual(found("(next e (or))"), [])

    def test_key(self):
        self.assertEqual(found("(key t (n))"), [[0, 4], [1, 2]])
        self.assertEqual(found("(key t (w n))"), [[0, 4]])
        self.assertEqual(found("(key t (m))"), [[0, 4], [1, 2]])
        self.assertEqual(found("(key t (n n))"), [[0, 4], [1, 2]])
        self.assertEqual(found("(key e (n))"), [])

    def test_key_of_no_column(self):
        self.assertEqual(len(found("(key t ())")), 10)
        self.assertEqual(found("(key e ())"), [])

    def test_fixes(self):
        self.assertEqual(found("(fixes t (n) (w))"), [[1, 2]])
        self.assertEqual(found("(fixes t (n) (m))"), [])
        self.assertEqual(found("(fixes t (m) (n w))"), [[1, 2]])
        self.assertEqual(found("(fixes t (w) (m))"), [[0, 2], [1, 3], [2, 4]])
        self.assertEqual(found("(fixes t (n) ())"), [])
        self.assertEqual(found("(fixes t () (w))"), [[0, 1], [0, 3], [1, 2], [1, 4], [2, 3], [3, 4]])

    def test_refers(self):
        self.assertEqual(found("(refers t (n) u (k))"), [[3]])
        self.assertEqual(found("(refers t (m) u (k))"), [[1], [2]])
        self.assertEqual(found("(refers t (n w) u (k v))"), [[1], [2], [3]])
        self.assertEqual(found("(refers t (m w) u (k v))"), [[1], [2]])
        self.assertEqual(found("(refers t (w) u (v))"), [])
        self.assertEqual(found("(refers u (k) t (n))"), [[2]])
        self.assertEqual(found("(refers u (v k) t (w n))"), [[2]])
        self.assertEqual(found("(refers t (w) u (k))"), [[0], [1], [2], [3], [4]])
        self.assertEqual(found("(refers t (n) e (n))"), [[0], [1], [2], [3], [4]])
        self.assertEqual(found("(refers e (n) t (n))"), [])

    def test_refers_to_itself(self):
        self.assertEqual(found("(refers t (n) t (n))"), [])
        self.assertEqual(found("(refers t (m) t (n))"), [[1], [2], [3]])
        self.assertEqual(found("(refers t (m) t (m))"), [])
        self.assertEqual(found("(refers t (n m) t (m n))"), [[1], [2], [3]])

    def test_groups_that_are_counted(self):
        self.assertEqual(found("(groups t (w) (count) 3 5)"), [[1, 3]])
        self.assertEqual(found("(groups t (w) (count) 0 2)"), [[0, 2, 4]])
        self.assertEqual(found("(groups t (m) (count) 2 2)"), [[3]])
        self.assertEqual(found("(groups t (n) (count) 1 1)"), [[0, 4], [1, 2]])
        self.assertEqual(found("(groups t (w n) (count) 2 2)"), [[1], [2], [3]])
        self.assertEqual(found("(groups t (w) (count) 2 3)"), [])

    def test_groups_that_are_summed(self):
        self.assertEqual(found("(groups t (w) (sum n) 3 9)"), [[1, 3]])
        self.assertEqual(found("(groups t (w) (sum m) 3 3)"), [[1, 3]])
        self.assertEqual(found("(groups t (n) (sum m) 1 8)"), [[0, 4], [3]])
        self.assertEqual(found("(groups t (n) (sum m) 0 9)"), [])
        self.assertEqual(found("(groups t (m) (sum m) 0 6)"), [[3]])

    def test_groups_by_no_column(self):
        self.assertEqual(found("(groups t () (count) 5 5)"), [])
        self.assertEqual(found("(groups t () (count) 0 4)"), [[0, 1, 2, 3, 4]])
        self.assertEqual(found("(groups t () (sum n) 6 6)"), [])
        self.assertEqual(found("(groups t () (sum n) 7 9)"), [[0, 1, 2, 3, 4]])

    def test_groups_of_a_table_without_rows(self):
        self.assertEqual(found("(groups e () (count) 1 5)"), [])
        self.assertEqual(found("(groups e (n) (sum n) 1 5)"), [])

    def test_groups_from_more_to_less(self):
        self.assertEqual(found("(groups t (w) (count) 3 2)"), [[0, 2, 4], [1, 3]])


class Shapes(unittest.TestCase):
    def test_no_claim_by_its_shape(self):
        wrong = [
            "()", "(each)", "(each t)", "(each t (and) (and))", "(each 1 (and))", "(each (t) (and))", "(each t and)",
            "(each t 1)", "(each t ())", "(every t (and))", "((each) t (and))", "(each t (xor (and) (and)))",
            "(any t)", "(any t (and) (and))", "(pairs t)", "(pairs t (and) 1)", "(next t)", "(next t (and) 1)",
            "(key t)", "(key t n)", "(key t (1))", "(key t ((n)))", "(key t (n) (w))", "(key t (()))", "(key 1 (n))",
            "(fixes t (n))", "(fixes t (n) w)", "(fixes t n (w))", "(fixes t (n) (w) (m))", "(fixes t (1) (w))",
            "(refers t (n) u)", "(refers t (n) (k))", "(refers t (n) u (k) (v))", "(refers t () u ())",
            "(refers t (n) u ())", "(refers t () u (k))", "(refers t (n w) u (k))", "(refers t (n) u (k v))",
            "(refers t n u (k))", "(refers t (n) u k)", "(refers t (n) 1 (k))", "(refers t (1) u (k))",
            "(refers t (n) (u) (k))", "(groups t (n) (count) 1)", "(groups t (n) (count) 1 2 3)",
            "(groups t (n) count 1 2)", "(groups t (n) (count n) 1 2)", "(groups t (n) (sum) 1 2)",
            "(groups t (n) (sum 1) 1 2)", "(groups t (n) (sum n m) 1 2)", "(groups t (n) (max n) 1 2)",
            "(groups t (n) () 1 2)", "(groups t (n) 1 1 2)", "(groups t (n) (count) a 2)", "(groups t (n) (count) 1 b)",
            "(groups t n (count) 1 2)", "(groups t (1) (count) 1 2)", "(groups t (n) (count) () 2)",
            "(groups t (n) (count) 1 (2))", "(group t (n) (count) 1 2)", "(1 t (n))", "(groups t (n) ((sum) n) 1 2)",
        ]
        for text in wrong:
            self.assertEqual(refusal(text), [-2], text)

    def test_no_condition_by_its_shape(self):
        wrong = [
            "(less 1)", "(less 1 2 3)", "(less)", "(same 1)", "(same 1 2 3)", "(gone)", "(gone 1 2)", "(not)",
            "(not (and) (and))", "(not 1)", "(and 1)", "(and (and) a)", "(or (and) 5)", "(or ())", "(less a 1)",
            "(less 1 a)", "(same (word) 1)", "(same (word a b) 1)", "(same (word 1) 1)", "(same (col) 1)",
            "(same (col n w) 1)", "(same (col 1) 1)", "(same (col (n)) 1)", "(same (add 1) 1)", "(same (add 1 2 3) 1)",
            "(same (sub 1) 1)", "(same (sub 1 2 3) 1)", "(same (mul 1 2) 2)", "(same () 1)", "(same 1 ())", "(gone ())",
            "(same (and) 1)", "(same (add 1 (and)) 1)",
            "(same (add (and) 1) 1)", "(same (sub a 1) 1)", "(same (sub 1 a) 1)", "(same (add () 1) 1)", "(gone (col))", "(same ((col) n) 1)", "((and))",
        ]
        for condition in wrong:
            self.assertEqual(refusal("(each t " + condition + ")"), [-2], condition)
            self.assertEqual(refusal("(any t (and " + condition + "))"), [-2], condition)
            self.assertEqual(refusal("(pairs t (not " + condition.replace("col", "one") + "))"), [-2], condition)
            self.assertEqual(refusal("(next t (or " + condition.replace("col", "two") + "))"), [-2], condition)

    def test_rows_are_named_as_many_as_are_asked_about(self):
        for head in ["each", "any"]:
            self.assertEqual(refusal("(" + head + " t (gone (one n)))"), [-2])
            self.assertEqual(refusal("(" + head + " t (same 1 (add 1 (two n))))"), [-2])
        for head in ["pairs", "next"]:
            self.assertEqual(refusal("(" + head + " t (gone (col n)))"), [-2])
            self.assertEqual(refusal("(" + head + " t (same (one n) (add 1 (col n))))"), [-2])


class Names(unittest.TestCase):
    def test_a_table_or_column_is_not_there(self):
        wrong = [
            "(each x (and))", "(any x (and))", "(pairs x (and))", "(next x (and))", "(key x ())", "(fixes x () ())",
            "(refers x (n) t (n))", "(refers t (n) x (n))", "(groups x () (count) 0 9)", "(each t (gone (col k)))",
            "(each t (or (and) (same 1 (add 1 (col k)))))", "(any t (not (less (sub (col k) 1) 2)))",
            "(pairs t (same (one n) (two k)))", "(next t (same (one k) (two n)))", "(key t (n k))", "(fixes t (k) (n))",
            "(fixes t (n) (k))", "(refers t (k) u (k))", "(refers t (n) u (n))", "(refers t (n w) u (k w))",
            "(groups t (k) (count) 0 9)", "(groups t (n) (sum k) 0 9)", "(groups t (n) (sum w) 0 9)", "(key e (w))",
        ]
        for text in wrong:
            self.assertEqual(refusal(text), [-3], text)

    def test_a_word_is_no_column(self):
        self.assertEqual(refusal("(each t (same (word k) (word k)))"), [0, 0])

    def test_the_sums_column_may_be_one_that_misses_cells(self):
        self.assertEqual(refusal("(groups t () (sum m) 15 15)"), [0, 0])


class LevelsAndOwners(unittest.TestCase):
    def test_levels(self):
        for level in [0, 1, 2]:
            self.assertEqual(refusal("(key e (n))", level), [0, 0])
        for level in [-1, 3, 10, -10 ** 18, 10 ** 18]:
            self.assertEqual(refusal("(key e (n))", level), [-7])

    def test_owners(self):
        for owner in ["a", "ann", "A-1.b", "w" * 20]:
            self.assertEqual(refusal("(key e (n))", 0, owner), [0, 0], owner)
        for owner in ["", " ", "1", "1a", "-a", " ann", "ann ", "a b", "ann\n", "(ann)", "w" * 21, "w" * 6000, "a_b", [0], [255, 97]]:
            self.assertEqual(refusal("(key e (n))", 0, owner), [-10], owner)

    def test_numbers_rise(self):
        kept = [claim(0, "o", "(key t (w n))"), claim(1, "o", "(key t (n))"), claim(2, "p", "(key t (w n))")]
        self.assertEqual(run(TABLE, *kept)[1:], [[0, 1], [1, 2], [2, 1]])

    def test_12_claims_and_13(self):
        calls = [TABLE] + [claim(0, "o", "(key t (n))") for number in range(13)]
        self.assertEqual(run(*calls)[1:], [[number, 2] for number in range(12)] + [[-6]])
        self.assertEqual(last(*calls, status()), [12] + [2] * 12)


class Order(unittest.TestCase):
    def test_the_one_told_first_is_answered(self):
        full = [TABLE] + [claim(0, "o", "(key t (n))") for number in range(12)]
        self.assertEqual(last(*full, claim(3, "", "(")), [-7])
        self.assertEqual(last(*full, claim(2, "", "(")), [-10])
        self.assertEqual(last(*full, claim(2, "o", "(")), [-1])
        self.assertEqual(last(*full, claim(2, "o", padded("(key x)", 701))), [-1])
        self.assertEqual(last(*full, claim(2, "o", "(key x)")), [-2])
        self.assertEqual(last(*full, claim(2, "o", "(key x (n))")), [-3])
        self.assertEqual(last(*full, claim(2, "o", "(key t (n))")), [-6])

    def test_shape_ahead_of_names(self):
        self.assertEqual(refusal("(refers x (n) y ())"), [-2])
        self.assertEqual(refusal("(each x (col n))"), [-2])
        self.assertEqual(refusal("(groups x (k) (sum w) 1 b)"), [-2])

    def test_behind_a_refusal_the_object_is_as_it_was(self):
        wrong = [(3, "o", "(key t (n))"), (0, "", "(key t (n))"), (0, "o", "("), (0, "o", "(key)"), (0, "o", "(key x (n))")]
        for level, owner, text in wrong:
            calls = [TABLE, claim(0, "o", "(key t (w n))"), claim(level, owner, text), status(), breakers(1)]
            answers = run(*calls, claim(1, "p", "(key t (n))"))
            self.assertLess(answers[2][0], 0)
            self.assertEqual(answers[3:], [[1, 1], [-3], [1, 2]], text)


if __name__ == "__main__":
    unittest.main()
