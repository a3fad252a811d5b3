"""[2], [4], [5], [7]: the tests, where they hold, their masks and their own texts."""

import unittest

from anymeaning.errors import NoTest
from anymeaning.signs import Both, Either, Named, No, Not, Test, Yes
from anymeaning.signwords import read_test
from tests.helper import A, B, C, D, SETTINGS, all_of, shape, tests_by_size

KINDS = (Yes, No, Named, Not, Both, Either)

# The settings at which a letter holds, written out from [4].
HOLDING = {
    "a": (1, 3, 5, 7, 9, 11, 13, 15),
    "b": (2, 3, 6, 7, 10, 11, 14, 15),
    "c": (4, 5, 6, 7, 12, 13, 14, 15),
    "d": (8, 9, 10, 11, 12, 13, 14, 15),
}


def settings_of(test):
    """The settings at which a test holds by [5], found by sets and not by the test itself."""
    every = frozenset(SETTINGS)
    if isinstance(test, Yes):
        return every
    if isinstance(test, No):
        return frozenset()
    if isinstance(test, Named):
        return frozenset(HOLDING[test.name])
    if isinstance(test, Not):
        return every - settings_of(test.inner)
    if isinstance(test, Both):
        return settings_of(test.left) & settings_of(test.right)
    return settings_of(test.left) | settings_of(test.right)


def minterm(setting):
    """A test that holds at this setting alone."""
    signs = [sign if setting in HOLDING[sign.name] else Not(sign) for sign in (A, B, C, D)]
    return Both(Both(Both(signs[0], signs[1]), signs[2]), signs[3])


class KindsTest(unittest.TestCase):
    def test_kinds_stand_under_the_base_and_not_under_another(self):
        for one in KINDS:
            self.assertTrue(issubclass(one, Test))
            self.assertIsNot(one, Test)
            for other in KINDS:
                with self.subTest(one=one.__name__, other=other.__name__):
                    self.assertEqual(issubclass(one, other), one.__name__ == other.__name__)

    def test_fields_are_what_was_handed_in(self):
        for name in "abcd":
            self.assertEqual(Named(name).name, name)
        self.assertIs(Not(A).inner, A)
        for kind in (Both, Either):
            made = kind(A, B)
            self.assertIs(made.left, A)
            self.assertIs(made.right, B)

    def test_arguments_by_name(self):
        self.assertEqual(Named(name="d").name, "d")
        self.assertIs(Not(inner=A).inner, A)
        for kind in (Both, Either):
            made = kind(right=A, left=B)
            self.assertIs(made.left, B)
            self.assertIs(made.right, A)


class HoldsTest(unittest.TestCase):
    def check(self, test, settings):
        for setting in SETTINGS:
            with self.subTest(test=shape(test), setting=setting):
                self.assertIs(test.holds(setting), setting in settings)

    def test_yes_and_no(self):
        self.check(Yes(), SETTINGS)
        self.check(No(), ())

    def test_letters(self):
        for name, settings in HOLDING.items():
            self.check(Named(name), settings)

    def test_the_documents_setting(self):
        self.assertEqual([name for name in "abcd" if Named(name).holds(5)], ["a", "c"])

    def test_not(self):
        self.check(Not(A), (0, 2, 4, 6, 8, 10, 12, 14))
        self.check(Not(D), (0, 1, 2, 3, 4, 5, 6, 7))
        self.check(Not(Yes()), ())
        self.check(Not(No()), SETTINGS)
        self.check(Not(Not(B)), HOLDING["b"])

    def test_both(self):
        self.check(Both(A, B), (3, 7, 11, 15))
        self.check(Both(C, D), (12, 13, 14, 15))
        self.check(Both(A, Not(A)), ())
        self.check(Both(Yes(), C), HOLDING["c"])
        self.check(Both(C, No()), ())

    def test_either(self):
        self.check(Either(A, B), (1, 2, 3, 5, 6, 7, 9, 10, 11, 13, 14, 15))
        self.check(Either(C, D), (4, 5, 6, 7, 8, 9, 10, 11, 12, 13, 14, 15))
        self.check(Either(A, Not(A)), SETTINGS)
        self.check(Either(No(), C), HOLDING["c"])
        self.check(Either(C, Yes()), SETTINGS)

    def test_all_small_tests(self):
        for test in all_of(tests_by_size("abcd", 4)):
            settings = settings_of(test)
            for setting in SETTINGS:
                self.assertIs(test.holds(setting), setting in settings, (shape(test), setting))


class MaskTest(unittest.TestCase):
    def test_written_masks(self):
        for test, mask in (
            (No(), 0),
            (Yes(), 65535),
            (A, 43690),
            (B, 52428),
            (C, 61680),
            (D, 65280),
            (Not(A), 21845),
            (Both(A, B), 34952),
            (Either(A, B), 61166),
            (Both(Not(A), Both(Not(C), Not(D))), 5),
        ):
            with self.subTest(test=shape(test)):
                self.assertEqual(test.mask(), mask)

    def test_mask_of_each_single_setting(self):
        for setting in SETTINGS:
            test = minterm(setting)
            # The helper's own test is asked ahead of the mask, so that neither hides the other's fault.
            self.assertEqual(settings_of(test), {setting})
            self.assertEqual(test.mask(), 1 << setting)
            self.assertEqual(Not(test).mask(), 65535 - (1 << setting))

    def test_mask_is_a_whole_number_within_its_bounds(self):
        for test in all_of(tests_by_size("abcd", 4)):
            mask = test.mask()
            self.assertIs(type(mask), int)
            self.assertTrue(0 <= mask <= 65535)
            self.assertEqual(mask, sum(1 << setting for setting in settings_of(test)), shape(test))


class SharedTest(unittest.TestCase):
    def test_one_test_in_several_places(self):
        one = Either(A, Not(B))
        test = Both(one, Not(Both(one, Either(one, one))))
        before = shape(test)
        self.assertEqual(test.mask(), 0)
        self.assertEqual(
            test.text(), "( a or not b ) and not ( ( a or not b ) and ( a or not b or ( a or not b ) ) )"
        )
        self.assertEqual(Either(one, one).mask(), one.mask())
        self.assertEqual(shape(test), before)

    def test_one_test_doubled_again_and_again(self):
        test = A
        text = "a"
        for round_number in range(4):
            test = Both(test, test)
            text = text + " and " + (text if round_number == 0 else "( " + text + " )")
        self.assertEqual(test.text(), text)
        self.assertEqual(test.mask(), 43690)

    def test_nothing_is_changed_and_the_same_is_told_again(self):
        for test in all_of(tests_by_size("ab", 4)):
            before = shape(test)
            told = (test.mask(), test.text(), [test.holds(setting) for setting in SETTINGS])
            again = (test.mask(), test.text(), [test.holds(setting) for setting in SETTINGS])
            self.assertEqual(told, again)
            self.assertEqual(shape(test), before)


class TextTest(unittest.TestCase):
    def check(self, rows):
        for test, text in rows:
            with self.subTest(test=shape(test)):
                self.assertEqual(test.text(), text)

    def test_single_words(self):
        self.check([(Yes(), "yes"), (No(), "no"), (A, "a"), (B, "b"), (C, "c"), (D, "d")])

    def test_inner_of_a_not(self):
        self.check([
            (Not(Yes()), "not yes"),
            (Not(No()), "not no"),
            (Not(C), "not c"),
            (Not(Not(C)), "not not c"),
            (Not(Both(C, D)), "not ( c and d )"),
            (Not(Either(C, D)), "not ( c or d )"),
        ])

    def test_left_in_a_both(self):
        self.check([
            (Both(Yes(), A), "yes and a"),
            (Both(No(), A), "no and a"),
            (Both(C, A), "c and a"),
            (Both(Not(C), A), "not c and a"),
            (Both(Both(C, D), A), "c and d and a"),
            (Both(Either(C, D), A), "( c or d ) and a"),
        ])

    def test_right_in_a_both(self):
        self.check([
            (Both(A, Yes()), "a and yes"),
            (Both(A, No()), "a and no"),
            (Both(A, C), "a and c"),
            (Both(A, Not(C)), "a and not c"),
            (Both(A, Both(C, D)), "a and ( c and d )"),
            (Both(A, Either(C, D)), "a and ( c or d )"),
        ])

    def test_left_in_an_either(self):
        self.check([
            (Either(Yes(), A), "yes or a"),
            (Either(No(), A), "no or a"),
            (Either(C, A), "c or a"),
            (Either(Not(C), A), "not c or a"),
            (Either(Both(C, D), A), "c and d or a"),
            (Either(Either(C, D), A), "c or d or a"),
        ])

    def test_right_in_an_either(self):
        self.check([
            (Either(A, Yes()), "a or yes"),
            (Either(A, No()), "a or no"),
            (Either(A, C), "a or c"),
            (Either(A, Not(C)), "a or not c"),
            (Either(A, Both(C, D)), "a or c and d"),
            (Either(A, Either(C, D)), "a or ( c or d )"),
        ])

    def test_brackets_within_brackets(self):
        self.check([
            (Either(Both(Not(A), B), C), "not a and b or c"),
            (Not(Both(A, Not(Either(B, C)))), "not ( a and not ( b or c ) )"),
            (Both(Either(A, B), Either(C, D)), "( a or b ) and ( c or d )"),
            (Either(Both(A, B), Both(C, D)), "a and b or c and d"),
            (Either(A, Either(B, Either(C, D))), "a or ( b or ( c or d ) )"),
            (Both(A, Both(B, Both(C, D))), "a and ( b and ( c and d ) )"),
            (Either(Either(Either(A, B), C), D), "a or b or c or d"),
            (Both(Both(Both(A, B), C), D), "a and b and c and d"),
            (Not(Not(Either(A, Not(Not(B))))), "not not ( a or not not b )"),
        ])


class ReadAgainTest(unittest.TestCase):
    def test_small_tests_are_read_again(self):
        for test in all_of(tests_by_size("ab", 5)):
            self.assertEqual(shape(read_test(test.text())), shape(test), test.text())

    def test_long_tests_are_read_again(self):
        left = A
        for letter in (B, C, D, B, C):
            left = Either(Both(left, letter), Not(letter))
        nots = A
        for _ in range(39):
            nots = Not(nots)
        right = A
        for letter in (B, C, D, A, B, C, D, A, B, C):
            right = Both(letter, right)
        for test in (left, nots, right):
            self.assertLessEqual(len(test.text().split(" ")), 40)
            self.assertEqual(shape(read_test(test.text())), shape(test))

    def test_just_forty_words(self):
        chain = A
        for _ in range(18):
            chain = Either(chain, B)
        test = Either(chain, Not(Not(C)))
        text = test.text()
        self.assertEqual(len(text.split(" ")), 41)
        self.assertRaises(NoTest, read_test, text)
        shorter = Either(chain, Not(C))
        self.assertEqual(len(shorter.text().split(" ")), 40)
        self.assertEqual(shape(read_test(shorter.text())), shape(shorter))

    def test_own_text_may_be_too_long_to_read(self):
        test = A
        for _ in range(19):
            test = Either(B, test)
        text = "b or ( " * 18 + "b or a" + " )" * 18
        self.assertEqual(test.text(), text)
        self.assertRaises(NoTest, read_test, text)
        self.assertEqual(test.mask(), 61166)

    def test_forty_parts(self):
        test = A
        for _ in range(39):
            test = Not(test)
        self.assertEqual(test.text(), "not " * 39 + "a")
        self.assertEqual(test.mask(), 21845)
