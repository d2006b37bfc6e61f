"""What is readable: seen through table, put and claim, which answer -1 for what isn't; and how trees are written."""

import unittest

from claimskept.trees import read_tree, read_trees, written, written_trees
from tests.helper import claim, last, padded, put, status, table, take

WIDE = table("(table t ((n (up 1000000) maybe) (w (of a b) maybe)))")
ROOM = table("(table t ((n (up 1000000))) (1))")


def put_answer(text):
    return last(WIDE, put("t", text))


class Blanks(unittest.TestCase):
    def test_blanks_may_stand_anywhere_between_trees(self):
        for text in ["(1 a)", " (1 a)", "(1 a) ", "( 1 a )", "(1  a)", "(1\na)", "\n\n(\n1 \n a\n)\n", "(1 a)\n"]:
            self.assertEqual(put_answer(text), [0, 0, 0], text)

    def test_around_parentheses_none_is_wanted(self):
        self.assertEqual(put_answer("(1())"), [0, 0, 0])
        self.assertEqual(put_answer("(()a)"), [0, 0, 0])
        self.assertEqual(last(table("(table t((n(up 5))(m(of a b)maybe))(1())(2 a))")), [2, 2])

    def test_other_bytes_are_no_blanks(self):
        for byte in [0, 9, 11, 12, 13, 127, 160, 255]:
            text = [ord("("), ord("1"), byte, ord("a"), ord(")")]
            self.assertEqual(put_answer(text), [-1], byte)
            self.assertEqual(put_answer([byte] + [ord(sign) for sign in "(1 a)"]), [-1], byte)

    def test_every_byte_that_stands_in_no_tree(self):
        allowed = " \n()-.0123456789"
        for byte in range(256):
            sign = chr(byte)
            if sign in allowed or (byte < 128 and sign.isalpha()):
                continue
            text = [ord("(")] + [ord("a"), byte] + [ord(")")]
            self.assertEqual(put_answer(text), [-1], byte)


class OneTree(unittest.TestCase):
    def test_none_or_several(self):
        for text in ["", " ", "\n", "(1 a) (1 a)", "(1 a)(1 a)", "1 2", "(1 a) x", "()()"]:
            self.assertEqual(put_answer(text), [-1], text)
            self.assertEqual(last(table(text)), [-1], text)
            self.assertEqual(last(ROOM, claim(0, "o", text)), [-1], text)

    def test_one_tree_that_is_no_list(self):
        for text in ["7", "a", " a "]:
            self.assertEqual(put_answer(text), [-2], text)
            self.assertEqual(last(table(text)), [-2], text)
            self.assertEqual(last(ROOM, claim(0, "o", text)), [-2], text)


class Parentheses(unittest.TestCase):
    def test_they_have_to_match(self):
        for text in ["(", ")", "(1 a", "1 a)", "(1 a))", "((1 a)", ")(", "(1 a)(", ")(1 a)"]:
            self.assertEqual(put_answer(text), [-1], text)

    def test_depth_40_and_41(self):
        self.assertEqual(put_answer("(" * 40 + ")" * 40), [-2])
        self.assertEqual(put_answer("(" * 41 + ")" * 41), [-1])
        self.assertEqual(last(table("(" * 40 + ")" * 40)), [-2])
        self.assertEqual(last(table("(" * 41 + ")" * 41)), [-1])

    def test_depth_is_not_the_number_of_lists(self):
        self.assertEqual(put_answer("(" + "()" * 100 + ")"), [-4])
        self.assertEqual(put_answer("(" + ("(" * 39 + ")" * 39) * 3 + ")"), [-2])
        self.assertEqual(put_answer("(" + ("(" * 40 + ")" * 40) * 3 + ")"), [-1])

    def test_depth_of_a_claim_that_is_one(self):
        for depth, wanted in [(40, [0, 0]), (41, [-1])]:
            # each, the nots and (and) stand in one another.
            nots = depth - 2
            nots_even = nots % 2 == 0
            inner = "(and)" if nots_even else "(or)"
            text = "(each t " + "(not " * nots + inner + ")" * nots + ")"
            self.assertEqual(last(ROOM, claim(0, "o", text)), wanted, depth)

    def test_very_deep_texts(self):
        for text in ["(" * 2000 + ")" * 2000, "(" * 4000, ")" * 4000, "(" * 6000, "(" * 3000 + ")" * 3000]:
            self.assertEqual(put_answer(text), [-1])


class Numbers(unittest.TestCase):
    def test_the_greatest(self):
        self.assertEqual(put_answer("(999999 a)"), [0, 0, 0])
        self.assertEqual(put_answer("(1000000 a)"), [-4])
        self.assertEqual(put_answer("(1000001 a)"), [-1])
        self.assertEqual(put_answer("(9999999 a)"), [-1])
        self.assertEqual(put_answer("(10000000 a)"), [-1])
        self.assertEqual(put_answer("(" + "9" * 3990 + " a)"), [-1])
        self.assertEqual(put_answer("(" + "9" * 5990 + " a)"), [-1])

    def test_in_their_one_way(self):
        self.assertEqual(put_answer("(0 a)"), [0, 0, 0])
        for number in ["00", "01", "007", "0000001", "00000001", "-1", "-0", "+1", "1.0", "1-", "1a", "0x1", "1e3", "1."]:
            self.assertEqual(put_answer("(" + number + " a)"), [-1], number)

    def test_in_claims(self):
        self.assertEqual(last(ROOM, claim(0, "o", "(groups t () (count) 0 1000000)")), [0, 0])
        self.assertEqual(last(ROOM, claim(0, "o", "(groups t () (count) 0 1000001)")), [-1])
        self.assertEqual(last(ROOM, claim(0, "o", "(groups t () (count) 00 1)")), [-1])


class Words(unittest.TestCase):
    def test_20_and_21_bytes(self):
        for size, wanted in [(1, [1, 0]), (20, [1, 0]), (21, [-1])]:
            word = "w" * size
            self.assertEqual(last(table("(table " + word + " ((n (up 2))))")), wanted, size)
            self.assertEqual(last(table("(table t ((" + word + " (up 2))))")), wanted, size)
            self.assertEqual(last(table("(table t ((n (of " + word + "))))")), wanted, size)

    def test_their_signs(self):
        for word in ["a", "z", "A", "Z", "a0", "a9", "a-", "a.", "a--..", "Zz-9.x"]:
            self.assertEqual(last(table("(table " + word + " ((n (up 2))))")), [1, 0], word)
        for word in ["-a", ".a", "-", ".", "0a", "9a", "a_b", "a+", "a,b", "a%", "a'", 'a"', "@", "[", "`", "{", "a?", "a/b"]:
            self.assertEqual(last(table("(table " + word + " ((n (up 2))))")), [-1], word)

    def test_large_and_small_letters_are_not_the_same(self):
        self.assertEqual(last(table("(table t ((n (up 2)) (N (up 2))))")), [2, 0])
        self.assertEqual(last(table("(Table t ((n (up 2))))")), [-2])
        self.assertEqual(last(ROOM, put("T", "(1)")), [-3])


class Sizes(unittest.TestCase):
    def test_4000_and_4001_bytes(self):
        self.assertEqual(put_answer(padded("(1 a)", 4000)), [0, 0, 0])
        self.assertEqual(put_answer(padded("(1 a)", 4001)), [-1])
        self.assertEqual(put_answer(" " * 3995 + "(1 a)"), [0, 0, 0])
        self.assertEqual(put_answer(" " * 3996 + "(1 a)"), [-1])
        self.assertEqual(put_answer(padded("(1 a)", 6000)), [-1])
        self.assertEqual(last(table(padded("(table t ((n (up 2))))", 4000))), [1, 0])
        self.assertEqual(last(table(padded("(table t ((n (up 2))))", 4001))), [-1])

    def test_a_claims_700_and_701_bytes(self):
        text = "(key t (n))"
        self.assertEqual(last(ROOM, claim(0, "o", padded(text, 700))), [0, 0])
        self.assertEqual(last(ROOM, claim(0, "o", padded(text, 701))), [-1])
        self.assertEqual(last(ROOM, claim(0, "o", padded(text, 4001))), [-1])
        full = "(each t (and" + " (and)" * 114 + "))"
        self.assertEqual(len(full), 698)
        self.assertEqual(last(ROOM, claim(0, "o", full + "  ")), [0, 0])
        self.assertEqual(last(ROOM, claim(0, "o", full + "   ")), [-1])

    def test_empty_texts_and_names(self):
        self.assertEqual(last(table("")), [-1])
        self.assertEqual(last(ROOM, claim(0, "o", "")), [-1])
        self.assertEqual(last(ROOM, claim(0, "", "(key t (n))")), [-10])
        self.assertEqual(last(ROOM, put("t", "")), [-1])
        self.assertEqual(last(ROOM, put("", "(1)")), [-3])
        self.assertEqual(last(ROOM, put("", "")), [-3])
        self.assertEqual(last(ROOM, take(0, "")), [-3])
        self.assertEqual(last(status()), [0])


class Written(unittest.TestCase):
    def test_in_the_one_way(self):
        for text in ["0", "1000000", "w", "a-.9", "()", "(())", "(() ())", "(a (1 ()) b)", "(" * 40 + ")" * 40]:
            self.assertEqual(written(read_tree(text)), text)
        self.assertEqual(written(read_tree(" (\na( 1())b  )\n")), "(a (1 ()) b)")

    def test_trees_one_behind_the_other(self):
        self.assertEqual(written_trees([]), "")
        self.assertEqual(written_trees(read_trees(" 1(a)\n ()  w ")), "1 (a) () w")


if __name__ == "__main__":
    unittest.main()
