"""[20], [21] and the own texts of [25]: sayings."""

import random
import unittest

from anymeaning.sayings import Behind, Nowhere, Saying, Through
from anymeaning.signs import Both, Either, No, Not, Yes
from tests.helper import A, B, C, D, DEEDS, SETTINGS, shape, some_test

KINDS = (Nowhere, Behind, Through)


def many_tests():
    chance = random.Random(21)
    return [Yes(), No(), A, B, C, D, Not(A), Both(A, B), Either(C, D)] + [some_test(chance, 6) for _ in range(12)]


class KindsTest(unittest.TestCase):
    def test_kinds_stand_under_the_base_and_not_under_another(self):
        for one in KINDS:
            self.assertTrue(issubclass(one, Saying))
            self.assertIsNot(one, Saying)
            for other in KINDS:
                self.assertEqual(issubclass(one, other), one.__name__ == other.__name__)

    def test_fields_are_what_was_handed_in(self):
        self.assertIs(Nowhere(A).test, A)
        self.assertIs(Nowhere(test=A).test, A)
        behind = Behind(A, "Q", B)
        self.assertEqual((behind.before, behind.deed, behind.after), (A, "Q", B))
        behind = Behind(after=B, deed="R", before=A)
        self.assertEqual((behind.before, behind.deed, behind.after), (A, "R", B))
        through = Through(A, "S")
        self.assertEqual((through.test, through.deed), (A, "S"))
        through = Through(deed="T", test=B)
        self.assertEqual((through.test, through.deed), (B, "T"))


class BarsTest(unittest.TestCase):
    def test_nowhere_bars_where_its_test_holds(self):
        for test in many_tests():
            for setting in SETTINGS:
                self.assertIs(Nowhere(test).bars(setting), test.holds(setting))
        self.assertEqual([s for s in SETTINGS if Nowhere(Both(A, B)).bars(s)], [3, 7, 11, 15])

    def test_others_bar_none(self):
        for test in many_tests():
            for setting in SETTINGS:
                for deed in DEEDS:
                    self.assertIs(Behind(test, deed, No()).bars(setting), False)
                    self.assertIs(Through(test, deed).bars(setting), False)


class LetsTest(unittest.TestCase):
    def check(self, saying, barred):
        """barred(deed, setting, later) tells where it does not let by."""
        for deed in DEEDS:
            for setting in SETTINGS:
                for later in SETTINGS:
                    told = saying.lets(deed, setting, later)
                    self.assertIs(told, not barred(deed, setting, later), (saying.text(), deed, setting, later))

    def test_nowhere_lets_all_by(self):
        for test in many_tests():
            self.check(Nowhere(test), lambda deed, setting, later: False)

    def test_behind(self):
        self.check(Behind(A, "P", B), lambda deed, setting, later: deed == "P" and setting & 1 and not later & 2)
        self.check(Behind(Yes(), "T", No()), lambda deed, setting, later: deed == "T")
        self.check(Behind(No(), "T", No()), lambda deed, setting, later: False)
        self.check(Behind(Yes(), "T", Yes()), lambda deed, setting, later: False)
        tests = many_tests()
        for number, deed in enumerate(DEEDS * 4):
            before = tests[number]
            after = tests[-1 - number]
            self.check(
                Behind(before, deed, after),
                lambda now, setting, later: now == deed and before.holds(setting) and not after.holds(later),
            )

    def test_through(self):
        self.check(Through(C, "Q"), lambda deed, setting, later: deed == "Q" and (setting ^ later) & 4)
        self.check(Through(Yes(), "Q"), lambda deed, setting, later: False)
        self.check(Through(No(), "Q"), lambda deed, setting, later: False)
        tests = many_tests()
        for number, deed in enumerate(DEEDS * 4):
            test = tests[number]
            self.check(
                Through(test, deed),
                lambda now, setting, later: now == deed and test.holds(setting) != test.holds(later),
            )


class TextTest(unittest.TestCase):
    def test_texts(self):
        for saying, text in (
            (Nowhere(A), "nowhere a"),
            (Nowhere(Both(A, Either(B, C))), "nowhere a and ( b or c )"),
            (Nowhere(Yes()), "nowhere yes"),
            (Behind(A, "P", B), "behind P : a : b"),
            (Behind(Not(A), "T", Either(A, B)), "behind T : not a : a or b"),
            (Behind(No(), "S", Not(Both(A, B))), "behind S : no : not ( a and b )"),
            (Through(D, "Q"), "through Q : d"),
            (Through(Either(A, Either(B, C)), "R"), "through R : a or ( b or c )"),
        ):
            with self.subTest(text=text):
                before = shape(saying)
                self.assertEqual(saying.text(), text)
                self.assertEqual(shape(saying), before)
