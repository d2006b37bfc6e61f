"""Promise 10: shown, and how long a text may be that is answered."""

import unittest

from claimskept.telling import with_text
from tests.helper import claim, day, last, put, run, shown, status, table, take, told_table, undo

TEXT = "(table t ((n (up 10)) (w (of a B-.9 c) maybe) (m (up 1000000) maybe)) (1 a 5) (0 () ()) (9 B-.9 999999))"


class Shown(unittest.TestCase):
    def test_words_numbers_and_missing_cells(self):
        self.assertEqual(told_table("t", table(TEXT)), TEXT)

    def test_a_table_without_rows(self):
        for text in ["(table t ((n (up 1))))", "(table t ((n (of a)) (m (of a b c) maybe)))",
                     "(table t ((maybe (up 1000000) maybe)))"]:
            self.assertEqual(told_table("t", table(text)), text)

    def test_in_the_one_way(self):
        text = "\n\n(table t((n(up 10))(w\n(of   a\nB-.9 c)maybe)(m (up 1000000) \n maybe ) )(1\na\n5)(0()( \n))(9 B-.9 999999)  )\n "
        self.assertEqual(told_table("t", table(text)), TEXT)
        self.assertEqual(told_table("t", table("(table t((n(up 10)))(1)(2))"), put("t", "\n (  3\n)  ")),
                         "(table t ((n (up 10))) (1) (2) (3))")
        self.assertEqual(told_table("t", table("(table t ((n (up 10) maybe)))"), put("t", "((\n))")),
                         "(table t ((n (up 10) maybe)) (()))")

    def test_the_bytes_alone(self):
        text = "(table t ((n (up 2))) (0) (1))"
        self.assertEqual(last(table(text), shown("t")), [ord(sign) for sign in text])

    def test_behind_puts_and_takes(self):
        calls = [table(TEXT), put("t", "(7 c ())"), take(1, "t"), take(0, "t"), put("t", "(7 () 0)")]
        columns = "(table t ((n (up 10)) (w (of a B-.9 c) maybe) (m (up 1000000) maybe))"
        self.assertEqual(told_table("t", *calls), columns + " (9 B-.9 999999) (7 c ()) (7 () 0))")
        for number in range(3):
            calls.append(take(0, "t"))
        self.assertEqual(told_table("t", *calls), columns + ")")

    def test_each_table_by_its_name(self):
        texts = {"t": "(table t ((n (up 2))) (1))", "T": "(table T ((n (up 3))))", "table": "(table table ((table (of table))) (table))"}
        calls = [table(text) for text in texts.values()]
        for name, text in texts.items():
            self.assertEqual(told_table(name, *calls), text)

    def test_what_is_shown_can_be_read_again(self):
        text = told_table("t", table(TEXT), put("t", "(3 () 4)"), take(1, "t"))
        self.assertEqual(told_table("t", table(text)), text)

    def test_names_of_words_of_the_most_bytes(self):
        words = [sign * 20 for sign in "abcdefghij"]
        columns = ["(" + sign * 20 + " (of " + " ".join(words) + ") maybe)" for sign in "KLMNOP"]
        row = "(" + " ".join(words[:6]) + ")"
        name = "z" * 20
        calls = [table("(table " + name + " (" + " ".join(columns) + "))")]
        calls.extend(put(name, row) for number in range(40))
        wanted = "(table " + name + " (" + " ".join(columns) + ")" + (" " + row) * 40 + ")"
        self.assertEqual(told_table(name, *calls), wanted)
        self.assertEqual(len(wanted), 6614)

    def test_claims_and_days_are_not_shown(self):
        self.assertEqual(told_table("t", table(TEXT), claim(0, "o", "(any t (or))"), day()), TEXT)


class NoSuchTable(unittest.TestCase):
    def test_no_such_table(self):
        for name in ["u", "", "T", "tt", " t", "t ", "t\n", "(t)", "0", [0], [255], [116, 0], [116] * 6000, [63]]:
            self.assertEqual(last(table(TEXT), shown(name)), [-3], name)
        self.assertEqual(last(shown("t")), [-3])

    def test_a_refused_table_is_not_there(self):
        self.assertEqual(last(table("(table t ((n (up 2))) (2))"), shown("t")), [-3])
        self.assertEqual(last(table(TEXT), undo(), shown("t")), [-3])

    def test_a_refused_put_or_take_is_not_shown(self):
        self.assertEqual(told_table("t", table(TEXT), put("t", "(10 () ())"), put("t", "(1)"), take(3, "t"), take(-1, "t"),
                                    table("(table t ((n (up 2))))")), TEXT)

    def test_asked_again_the_same_is_told(self):
        found = run(table(TEXT), shown("t"), shown("u"), shown("t"), shown("u"), status(), undo())
        self.assertEqual(found[1:3], found[3:5])
        self.assertEqual(found[-1], [0])


class TooLong(unittest.TestCase):
    def test_more_than_12000_bytes(self):
        # No table and no turns are written as long as that, so what answers a text is asked by itself.
        self.assertEqual(with_text([], "a" * 12000), [97] * 12000)
        self.assertEqual(with_text([3], "a" * 12000), [3] + [97] * 12000)
        self.assertEqual(with_text([], "a" * 12001), [-8])
        self.assertEqual(with_text([3], "a" * 12001), [-8])


if __name__ == "__main__":
    unittest.main()
