"""[25]: sayings read from their texts."""

import random
import unittest

from anymeaning.errors import NoSaying
from anymeaning.sayings import Behind, Nowhere, Through
from anymeaning.saywords import read_saying
from anymeaning.signs import Both, Either, No, Not, Yes
from tests.helper import A, B, C, D, DEEDS, shape, some_saying, some_test

FORTY = "not " * 39 + "a"
LONGER = "not " * 40 + "a"


class ReadTest(unittest.TestCase):
    def check(self, rows):
        for text, saying in rows:
            with self.subTest(text=text):
                self.assertEqual(shape(read_saying(text)), shape(saying))

    def test_nowhere(self):
        self.check([
            ("nowhere a", Nowhere(A)),
            ("nowhere yes", Nowhere(Yes())),
            ("nowhere not a and b or c", Nowhere(Either(Both(Not(A), B), C))),
            ("nowhere ( ( d ) )", Nowhere(D)),
        ])

    def test_behind(self):
        self.check([("behind " + deed + " : a : b", Behind(A, deed, B)) for deed in DEEDS])
        self.check([
            ("behind P : b : a", Behind(B, "P", A)),
            ("behind P : not a : a or b", Behind(Not(A), "P", Either(A, B))),
            ("behind T : ( a or b ) and c : no", Behind(Both(Either(A, B), C), "T", No())),
            ("behind S : yes : yes", Behind(Yes(), "S", Yes())),
        ])

    def test_through(self):
        self.check([("through " + deed + " : a", Through(A, deed)) for deed in DEEDS])
        self.check([("through R : a and not b", Through(Both(A, Not(B)), "R"))])

    def test_forty_words(self):
        test = A
        for _ in range(39):
            test = Not(test)
        self.check([
            ("nowhere " + FORTY, Nowhere(test)),
            ("behind P : " + FORTY + " : " + FORTY, Behind(test, "P", test)),
            ("through P : " + FORTY, Through(test, "P")),
        ])

    def test_written_and_read_again(self):
        chance = random.Random(251)
        for _ in range(500):
            saying = some_saying(chance)
            self.assertEqual(shape(read_saying(saying.text())), shape(saying))
        for _ in range(100):
            one = some_test(chance, 12)
            two = some_test(chance, 12)
            for saying in (Nowhere(one), Behind(one, "Q", two), Through(two, "T")):
                if max(len(test.text().split(" ")) for test in (one, two)) <= 40:
                    self.assertEqual(shape(read_saying(saying.text())), shape(saying))


class RefusedTest(unittest.TestCase):
    def check(self, texts):
        for text in texts:
            with self.subTest(text=text[:60]):
                with self.assertRaises(NoSaying) as taken:
                    read_saying(text)
                self.assertIs(type(taken.exception), NoSaying)

    def test_no_word(self):
        self.check(["", " ", "  ", "\n", ":", " : ", " : : "])

    def test_another_word_first(self):
        self.check([
            "a", "everywhere a", "Nowhere a", "NOWHERE a", "nowher a", "nowheree a", "not nowhere a", "a nowhere",
            "before P : a : b", "Behind P : a : b", "after P : a : b", "across P : a", "Through P : a", "P : a : b",
            "P : a", "through", "behind", "nowhere", "say nowhere a", ": nowhere a", "nowhere: a", "nowherea",
        ])

    def test_deeds_that_are_none(self):
        for deed in ("p", "U", "PQ", "PQRST", "QR", "", "a", "P Q", "deed", "P ;", "skip", "O", "\u0420", "PP"):
            self.check([f"behind {deed} : a : b", f"through {deed} : a"])
        self.check(["behind : a : b", "through : a", "behind a : b", "behind P a : b"])

    def test_colons_too_few_or_too_many(self):
        self.check([
            "nowhere : a", "nowhere a :", "nowhere a : b", "nowhere P : a", "nowhere : a : b",
            "behind P a b", "behind P : a b", "behind P a : b", "behind P : a", "behind P : a :", "behind P : : a",
            "behind P : a : b :", "behind P : a : b : c", "behind P : : a : b", "behind : P : a : b", "behind P",
            "behind P :", "behind P : :", "behind P : : :", "through P a", "through P", "through P :",
            "through P : a :", "through P : a : b", "through P : : a", "through : P : a", "through P : :",
            "behind P : a : : b", "behind P ; a ; b", "behind P, a, b", "through P ; a", "behind P :: a : b",
        ])

    def test_colons_without_a_blank(self):
        self.check([
            "behind P: a : b", "behind P :a : b", "behind P : a: b", "behind P : a :b", "behind P:a:b",
            "through P: a", "through P :a", "through P:a",
        ])

    def test_blanks(self):
        self.check([
            " nowhere a", "nowhere  a", "nowhere a ", "nowhere not  a", " behind P : a : b", "behind  P : a : b",
            "behind P  : a : b", "behind P :  a : b", "behind P : a  : b", "behind P : a :  b", "behind P : a : b ",
            " through P : a", "through  P : a", "through P  : a", "through P :  a", "through P : a ", "nowhere ",
            "behind ", "through ", "behind P : a : ", "through P : ", "behind P :  : b",
        ])

    def test_other_signs_for_the_blank(self):
        for sign in ("\n", "\t", "\r", "\v", "\f", "\x1c", "\x85", "\xa0", "\u2003", "\u2028", "\u3000", "\ufeff", "_"):
            self.check([
                f"nowhere{sign}a", f"nowhere a{sign}", f"{sign}nowhere a", f"behind{sign}P : a : b",
                f"behind P{sign}: a : b", f"behind P :{sign}a : b", f"behind P : a{sign}: b", f"behind P : a :{sign}b",
                f"behind P : a : b{sign}", f"through{sign}P : a", f"through P{sign}: a", f"through P :{sign}a",
                f"through P : a{sign}", f"nowhere not{sign}a",
            ])

    def test_tests_that_are_none(self):
        for test in (
            "e", "P", "a b", "a and", "not", "( a", "a )", "", "skip", "A", "a ; b", "Yes", "( )", "nowhere a",
        ):
            self.check([
                f"nowhere {test}", f"behind P : {test} : a", f"behind P : a : {test}", f"through P : {test}",
                f"behind P : {test} : {test}",
            ])

    def test_forty_one_words(self):
        self.check([
            "nowhere " + LONGER, "behind P : " + LONGER + " : a", "behind P : a : " + LONGER, "through P : " + LONGER,
            "behind P : " + FORTY + " : " + LONGER,
        ])

    def test_far_longer_texts(self):
        self.check([
            "nowhere " + "not " * 100000 + "a", "nowhere " + "( " * 100000, "behind P : " + "a : " * 100000 + "a",
            "nowhere " * 100000, "n" * 100000, " : " * 100000, "through P : " + "a and " * 100000 + "b",
        ])
