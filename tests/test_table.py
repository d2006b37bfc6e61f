"""Promise 1: table."""

import unittest

from tests.helper import claim, last, put, run, status, table

SMALL = "(table t ((n (up 5))))"


def columns(count):
    return "(" + " ".join("(c" + str(number) + " (up 5))" for number in range(count)) + ")"


def words(count):
    return " ".join("w" + str(number) for number in range(count))


class Held(unittest.TestCase):
    def test_how_many_columns_and_rows(self):
        self.assertEqual(last(table(SMALL)), [1, 0])
        self.assertEqual(last(table("(table t ((n (up 5)) (w (of a b) maybe)) (1 a) (4 ()) (0 b))")), [2, 3])

    def test_rows_are_held_in_order(self):
        calls = [table("(table t ((n (up 5))) (3) (1) (2))"), claim(0, "o", "(next t (less (one n) (two n)))")]
        self.assertEqual(last(*calls, [5, 0]), [1, 2, 0, 1])

    def test_kinds_at_their_edges(self):
        self.assertEqual(last(table("(table t ((n (up 1))) (0))")), [1, 1])
        self.assertEqual(last(table("(table t ((n (up 1))) (1))")), [-4])
        self.assertEqual(last(table("(table t ((n (up 1000000))) (999999))")), [1, 1])
        self.assertEqual(last(table("(table t ((n (up 1000000))) (1000000))")), [-4])

    def test_names_may_be_any_words(self):
        self.assertEqual(last(table("(table table ((table (of table of up)) (maybe (up 2) maybe)) (of ()))")), [2, 1])

    def test_40_rows_and_41(self):
        self.assertEqual(last(table("(table t ((n (up 5)))" + " (1)" * 40 + ")")), [1, 40])
        self.assertEqual(last(table("(table t ((n (up 5)))" + " (1)" * 41 + ")")), [-2])

    def test_6_columns_and_7(self):
        self.assertEqual(last(table("(table t " + columns(1) + " (4))")), [1, 1])
        self.assertEqual(last(table("(table t " + columns(6) + " (1 2 3 4 0 1))")), [6, 1])
        self.assertEqual(last(table("(table t " + columns(7) + " (1 2 3 4 0 1 2))")), [-2])
        self.assertEqual(last(table("(table t ())")), [-2])

    def test_10_words_and_11(self):
        self.assertEqual(last(table("(table t ((n (of " + words(1) + "))) (w0))")), [1, 1])
        self.assertEqual(last(table("(table t ((n (of " + words(10) + "))) (w9))")), [1, 1])
        self.assertEqual(last(table("(table t ((n (of " + words(11) + "))) (w9))")), [-2])
        self.assertEqual(last(table("(table t ((n (of))))")), [-2])

    def test_3_tables_and_4(self):
        calls = [table("(table " + name + " ((n (up 5))))") for name in ["a", "b", "c", "d"]]
        self.assertEqual(run(*calls), [[1, 0], [1, 0], [1, 0], [-6]])
        self.assertEqual(last(*calls, put("d", "(1)")), [-3])
        self.assertEqual(last(*calls, put("c", "(1)")), [0, 0, 0])


class Shapes(unittest.TestCase):
    def test_no_table_by_its_shape(self):
        wrong = [
            "()", "(table)", "(table t)", "(tables t ((n (up 5))))", "(t ((n (up 5))))", "(table 1 ((n (up 5))))",
            "(table (t) ((n (up 5))))", "(table t n)", "(table t 5)", "(table t (n (up 5)))", "(table t (()))",
            "(table t ((n)))", "(table t ((n up 5)))", "(table t ((n (up))))", "(table t ((n (up 5 6))))",
            "(table t ((n (up a))))", "(table t ((n (up 0))))", "(table t ((n (up ()))))", "(table t ((n ())))",
            "(table t ((n 5)))", "(table t ((n (down 5))))", "(table t ((5 (up 5))))", "(table t (((n) (up 5))))",
            "(table t ((n (up 5) perhaps)))", "(table t ((n (up 5) maybe maybe)))", "(table t ((n (up 5) (maybe))))",
            "(table t ((n (up 5) ())))", "(table t ((n (of a 1))))", "(table t ((n (of a ()))))",
            "(table t ((n (of (a)))))", "(table t ((n (in a b))))", "(table t (5))", "(table t ((n (up 5)) w))",
            "(table t ((n (up 5))) 1)", "(table t ((n (up 5))) a)",
            "(table t ((n (up 5))) ((1)))", "(table t ((n (up 5))) (1) 2)", "(table t ((n (up 5) maybe)) ((())))",
        ]
        for text in wrong:
            self.assertEqual(last(table(text)), [-2], text)

    def test_two_the_same(self):
        self.assertEqual(last(table("(table t ((n (up 5)) (n (up 6))))")), [-3])
        self.assertEqual(last(table("(table t ((n (up 5)) (m (up 6)) (n (of a) maybe)))")), [-3])
        self.assertEqual(last(table("(table t ((n (of a a))))")), [-3])
        self.assertEqual(last(table("(table t ((m (of a b)) (n (of a b c a))))")), [-3])

    def test_the_same_where_it_may_be(self):
        self.assertEqual(last(table("(table t ((t (of t a)) (a (of t a))) (t a) (t a))")), [2, 2])
        self.assertEqual(last(table("(table t ((n (of of up))))")), [1, 0])


class Cells(unittest.TestCase):
    def test_a_cell_for_each_column(self):
        for rows in ["()", "(1)", "(1 a 2)", "(1 a) (1)", "(1 a) ()", "(1 a) (1 a ())"]:
            self.assertEqual(last(table("(table t ((n (up 5)) (w (of a b) maybe)) " + rows + ")")), [-4], rows)

    def test_a_cell_as_its_column_wants_it(self):
        for rows in ["(5 a)", "(1 c)", "(a a)", "(1 1)", "(() a)", "(1 a) (5 a)", "(1 a) (1 maybe)", "(1 of)"]:
            self.assertEqual(last(table("(table t ((n (up 5)) (w (of a b) maybe)) " + rows + ")")), [-4], rows)

    def test_missing_only_where_it_may_be(self):
        self.assertEqual(last(table("(table t ((n (up 5) maybe)) (()))")), [1, 1])
        self.assertEqual(last(table("(table t ((n (of a) maybe)) (()))")), [1, 1])
        self.assertEqual(last(table("(table t ((n (up 5))) (()))")), [-4])
        self.assertEqual(last(table("(table t ((n (of a))) (()))")), [-4])


class Order(unittest.TestCase):
    def test_shape_ahead_of_the_same_twice(self):
        self.assertEqual(last(table("(table t ((n (up 5)) (n (up 0))))")), [-2])
        self.assertEqual(last(table("(table t ((n (of a a))) x)")), [-2])

    def test_the_same_twice_ahead_of_cells(self):
        self.assertEqual(last(table("(table t ((n (up 5)) (n (up 5))) (9))")), [-3])

    def test_cells_ahead_of_the_name(self):
        self.assertEqual(last(table(SMALL), table("(table t ((n (up 5))) (5))")), [-4])

    def test_the_name_ahead_of_the_number(self):
        calls = [table("(table " + name + " ((n (up 5))))") for name in ["a", "b", "c"]]
        self.assertEqual(last(*calls, table("(table b ((n (up 5))))")), [-5])
        self.assertEqual(last(*calls, table("(table b ((n (up 5))) (5))")), [-4])
        self.assertEqual(last(*calls, table("(table b ((n (up 5)) (n (up 5))))")), [-3])
        self.assertEqual(last(*calls, table("(table b)")), [-2])
        self.assertEqual(last(*calls, table("(table b")), [-1])

    def test_the_name_of_another_table(self):
        self.assertEqual(last(table(SMALL), table("(table t ((other (of a))))")), [-5])
        self.assertEqual(last(table(SMALL), table("(table u ((n (up 5))))")), [1, 0])


class BehindARefusal(unittest.TestCase):
    def test_the_object_is_as_it_was(self):
        before = [table("(table t ((n (up 5))) (1))"), claim(0, "o", "(any t (same (col n) 2))")]
        for text in ["(", "(table)", "(table u ((n (of a a))))", "(table u ((n (up 5))) (5))", "(table t ((w (of a))))"]:
            found = run(*before, table(text), put("u", "(1)"), status(), put("t", "(2)"), status())
            self.assertLess(found[2][0], 0)
            self.assertEqual(found[3:], [[-3], [1, 1], [1, 0, 1], [1, 0]], text)


if __name__ == "__main__":
    unittest.main()
