import unittest

from everygust.errors import BadText
from everygust.lexemes import lexemes
from tests.helpers import seeded, unchanged


class TestLexemes(unittest.TestCase):
    def told(self, text):
        return [(one[0], one[1]) for one in lexemes(text)]

    def test_sorts_and_places(self):
        self.assertEqual(unchanged(self, lexemes, "sheet { a1 <= -07 }"), [
            ("word", "sheet", 0), ("sign", "{", 6), ("word", "a1", 8), ("sign", "<=", 11), ("sign", "-", 14),
            ("numeral", "0", 15), ("numeral", "7", 16), ("sign", "}", 18)])
        self.assertEqual(lexemes(""), [])
        self.assertEqual(lexemes(" \n\n "), [])
        self.assertEqual(lexemes("\n {"), [("sign", "{", 2)])

    def test_words_and_numerals(self):
        self.assertEqual(self.told("007"), [("numeral", "0"), ("numeral", "0"), ("numeral", "7")])
        self.assertEqual(self.told("12ab"), [("numeral", "12"), ("word", "ab")])
        self.assertEqual(self.told("ab12"), [("word", "ab12")])
        self.assertEqual(self.told("100"), [("numeral", "100")])
        self.assertEqual(self.told("10a0b"), [("numeral", "10"), ("word", "a0b")])
        self.assertEqual(self.told("0a"), [("numeral", "0"), ("word", "a")])
        self.assertEqual(self.told("abcdefghijkl"), [("word", "abcdefghijkl")])

    def test_signs(self):
        self.assertEqual([one for _, one in self.told("{}();/-<=")], ["{", "}", "(", ")", ";", "/", "-", "<="])
        self.assertEqual([one for _, one in self.told("<=<=--")], ["<=", "<=", "-", "-"])

    def wrong(self, text, place):
        with self.assertRaises(BadText) as told:
            lexemes(text)
        self.assertEqual(told.exception.place, place)

    def test_first_wrong_character(self):
        for text, place in [
                ("<", 0), ("a < = b", 2), ("a <", 2), ("a\tb", 1), ("A", 0), ("aB", 1), ("1 ~", 2), ("a_b", 1),
                ("abcdefghijklm", 0), ("x abcdefghijklm", 2), ("1abcdefghijkl2", 1), ("=", 0), ("{ [", 2),
                ("a\n\n !", 4), ("<<=", 0), (">=", 0), ("1.5", 1), ("+1", 0), (",", 0)]:
            self.wrong(text, place)

    def test_long(self):
        self.assertEqual(lexemes("7" * 60000), [("numeral", "7" * 60000, 0)])
        self.assertEqual(len(lexemes("0" * 60000)), 60000)
        self.assertEqual(len(lexemes("ab " * 20000)), 20000)
        self.wrong("a" * 60000, 0)
        self.wrong(" " * 59999 + "!", 59999)
        self.assertEqual(lexemes("-" * 60000)[-1], ("sign", "-", 59999))

    def test_blanks_make_no_difference(self):
        told = seeded(4)
        parts = ["sheet", "0", "12", "{", "}", "<=", "-", "/", ";", "(", ")", "a1b2"]
        for _ in range(200):
            chosen = [told.choice(parts) for _ in range(8)]
            text = "".join(one + told.choice([" ", "\n", "  ", " \n "]) for one in chosen)
            self.assertEqual([one for _, one in self.told(text)], chosen)
            self.assertTrue(all(text[place:place + len(one)] == one for _, one, place in lexemes(text)))
