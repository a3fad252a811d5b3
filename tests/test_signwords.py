"""[6]: tests read from their texts."""

import ast
import itertools
import unittest

from anymeaning.errors import NoTest
from anymeaning.signs import Both, Either, No, Not, Yes
from anymeaning.signwords import read_test
from tests.helper import A, B, C, D, shape


def python_shape(text):
    """What Python's own reader makes of a text, as a shape, or None.

    Its `not`, `and`, `or` and brackets bind as [6] tells, so it is a second reader; it folds a chain
    of one operator into one node, and takes calls and tuples, which are no tests.
    """
    try:
        node = ast.parse(text, mode="eval").body
    except SyntaxError:
        return None
    return node_shape(node)


def node_shape(node):
    if isinstance(node, ast.Name):
        return {"yes": ("Yes",), "no": ("No",)}.get(node.id, ("Named", node.id))
    if isinstance(node, ast.UnaryOp):
        inner = node_shape(node.operand)
        return None if inner is None else ("Not", inner)
    if not isinstance(node, ast.BoolOp):
        return None
    parts = [node_shape(value) for value in node.values]
    if None in parts:
        return None
    kind = "Both" if isinstance(node.op, ast.And) else "Either"
    whole = parts[0]
    for part in parts[1:]:
        whole = (kind, whole, part)
    return whole


def shape_or_none(text):
    try:
        return shape(read_test(text))
    except NoTest:
        return None


class ReadTest(unittest.TestCase):
    def check(self, rows):
        for text, test in rows:
            with self.subTest(text=text):
                self.assertEqual(shape(read_test(text)), shape(test))

    def test_single_words(self):
        self.check([("yes", Yes()), ("no", No()), ("a", A), ("b", B), ("c", C), ("d", D)])

    def test_not_and_or(self):
        self.check([
            ("not a", Not(A)),
            ("not yes", Not(Yes())),
            ("not no", Not(No())),
            ("not not a", Not(Not(A))),
            ("not ( a )", Not(A)),
            ("a and b", Both(A, B)),
            ("a or b", Either(A, B)),
            ("yes and no", Both(Yes(), No())),
            ("no or yes", Either(No(), Yes())),
            ("a and a", Both(A, A)),
        ])

    def test_not_binds_closest(self):
        self.check([
            ("not a and b", Both(Not(A), B)),
            ("not a or b", Either(Not(A), B)),
            ("a and not b", Both(A, Not(B))),
            ("a or not b", Either(A, Not(B))),
            ("a and not b or c", Either(Both(A, Not(B)), C)),
            ("not not a and b", Both(Not(Not(A)), B)),
            ("not ( a and b )", Not(Both(A, B))),
            ("not ( a ) and b", Both(Not(A), B)),
            ("not not ( a or b ) and c", Both(Not(Not(Either(A, B))), C)),
        ])

    def test_and_binds_closer_than_or(self):
        self.check([
            ("a and b or c", Either(Both(A, B), C)),
            ("a or b and c", Either(A, Both(B, C))),
            ("a and b or c and d", Either(Both(A, B), Both(C, D))),
            ("a or b and c or d", Either(Either(A, Both(B, C)), D)),
            ("not a and b or c", Either(Both(Not(A), B), C)),
        ])

    def test_the_left_one_goes_first(self):
        self.check([
            ("a and b and c", Both(Both(A, B), C)),
            ("a or b or c", Either(Either(A, B), C)),
            ("a and b and c and d", Both(Both(Both(A, B), C), D)),
            ("a or b or c or d", Either(Either(Either(A, B), C), D)),
            ("a or b and c and d or a", Either(Either(A, Both(Both(B, C), D)), A)),
        ])

    def test_brackets(self):
        self.check([
            ("( a )", A),
            ("( ( yes ) )", Yes()),
            ("( a and b )", Both(A, B)),
            ("a and ( b and c )", Both(A, Both(B, C))),
            ("( a and b ) and c", Both(Both(A, B), C)),
            ("a or ( b or c )", Either(A, Either(B, C))),
            ("( a or b ) and c", Both(Either(A, B), C)),
            ("a and ( b or c )", Both(A, Either(B, C))),
            ("( a or b ) and ( c or d )", Both(Either(A, B), Either(C, D))),
            ("not ( not ( a or b ) and c )", Not(Both(Not(Either(A, B)), C))),
        ])

    def test_every_short_text_against_another_reader(self):
        words = ("a", "b", "not", "and", "or", "(", ")")
        read = 0
        for length in range(1, 6):
            for chosen in itertools.product(words, repeat=length):
                text = " ".join(chosen)
                expected = python_shape(text)
                read += expected is not None
                self.assertEqual(shape_or_none(text), expected, text)
        self.assertGreater(read, 80)

    def test_longer_texts_against_another_reader(self):
        operators = ("and", "or", "and not", "or not not")
        for chosen in itertools.product(operators, repeat=5):
            plain = "a {} b {} c {} d {} yes {} no".format(*chosen)
            pairs = "( a {} b ) {} not ( c {} ( d {} yes ) ) {} no".format(*chosen)
            for text in (plain, pairs):
                self.assertEqual(shape_or_none(text), python_shape(text), text)


class FortyWordsTest(unittest.TestCase):
    def check_read(self, text, test):
        self.assertEqual(len(text.split(" ")), 40)
        self.assertEqual(shape(read_test(text)), shape(test))

    def check_refused(self, text):
        self.assertEqual(len(text.split(" ")), 41)
        self.assertRaises(NoTest, read_test, text)

    def test_nots(self):
        test = A
        for _ in range(39):
            test = Not(test)
        self.check_read("not " * 39 + "a", test)
        self.check_refused("not " * 40 + "a")

    def test_chains(self):
        for word, kind in (("and", Both), ("or", Either)):
            test = Not(A)
            for _ in range(19):
                test = kind(test, B)
            self.check_read("not a" + f" {word} b" * 19, test)
            self.check_refused("a" + f" {word} b" * 20)

    def test_brackets(self):
        self.check_read("not " + "( " * 19 + "a" + " )" * 19, Not(A))
        self.check_refused("( " * 20 + "a" + " )" * 20)

    def test_deep_mixture(self):
        text = "not ( a or " * 9 + "b and c" + " )" * 9
        words = text.split(" ")
        self.assertEqual(len(words), 48)
        self.assertRaises(NoTest, read_test, text)
        test = Both(B, C)
        for _ in range(7):
            test = Not(Either(A, test))
        self.assertEqual(shape(read_test("not ( a or " * 7 + "b and c" + " )" * 7)), shape(test))


class RefusedTest(unittest.TestCase):
    def check(self, texts):
        for text in texts:
            with self.subTest(text=text[:60]):
                with self.assertRaises(NoTest) as taken:
                    read_test(text)
                self.assertIs(type(taken.exception), NoTest)

    def test_no_word(self):
        self.check(["", " ", "  ", "\n", "\t"])

    def test_words_that_are_none(self):
        self.check([
            "e", "ab", "abcd", "cd", "aa", "P", "x", "true", "True", "1", "0", "maybe", "yess", "ye", "n", "nor",
            "a & b", "a and e", "e or a", "not e", "( e )", "!a", "a , b", "a ; b", "{ a }", "[ a ]", "a.", "'a'",
            "skip", "if", "-a", "a and b.", "a xor b", "notnot a", "a andd b", "None", "and_",
        ])

    def test_words_too_few(self):
        self.check([
            "not", "and", "or", "not not", "a and", "a or", "and a", "or a", "a and not", "a or not", "a and or b",
            "a or and b", "a and and b", "a or or b", "not and a", "not or a", "a and ( b or )", "( and a )",
            "( not )", "( )", "( ( ) )", "not ( )", "a and ( )", "( ) and a",
        ])

    def test_words_too_many(self):
        self.check([
            "a b", "a a", "yes no", "a not", "a not b", "a yes", "not a b", "a and b c", "a or b not", "a ( b )",
            "( a ) b", "( a ) ( b )", "a and b ( c )", "( a ) not b", "a b and c", "yes yes",
        ])

    def test_brackets_that_do_not_match(self):
        self.check([
            "(", ")", "( a", "a )", "( a ) )", "( ( a )", ") a (", ") a", "a (", "( a and b", "a and b )",
            "a and ( b or c", "a and b ) or c", "( a and ( b )", "not ( a", "not a )", "( a or b ) and c )", "( a (",
        ])

    def test_brackets_without_a_blank(self):
        self.check(["(a)", "( a)", "(a )", "not(a)", "not (a)", "a and (b)", "()", "((a))", "(( a ))"])

    def test_blanks(self):
        self.check([
            " a", "a ", " a ", "a  and b", "a and  b", "not  a", "(  a )", "( a  )", "a and b ", " a and b", "a and ",
            " yes", "yes ", "  a", "a  ",
        ])

    def test_other_signs_for_the_blank(self):
        signs = [
            "\n", "\t", "\r", "\v", "\f", "\r\n", "\x00", "\x1c", "\x1d", "\x1e", "\x1f", "\x85", "\xa0", "\u1680",
            "\u2003", "\u2009", "\u200b", "\u2028", "\u2029", "\u3000", "\ufeff", "_", "+",
        ]
        for sign in signs:
            self.check([
                f"a{sign}and{sign}b", f"a{sign}and b", f"a and{sign}b", f"not{sign}a", f"({sign}a )", f"a{sign}",
                f"{sign}a", f"a and b{sign}", f"{sign}a and b", f"a {sign} b", f"a and {sign}b", f"a {sign}and b",
                f"( a{sign})", f"yes{sign}", f"{sign}no",
            ])

    def test_capitals(self):
        self.check([
            "A", "B", "C", "D", "Yes", "YES", "yeS", "No", "NO", "nO", "Not a", "NOT a", "a And b", "a AND b",
            "a Or b", "a OR b", "not A", "( A )", "a and B", "B or a",
        ])

    def test_signs_that_only_look_like_letters(self):
        self.check(["\u0430", "\uff41", "\u1d43", "a\u0301", "\uff08 a \uff09", "a \u2227 b", "\u00aa"])

    def test_very_long_texts(self):
        self.check([
            "not " * 100000 + "a", "( " * 100000 + "a" + " )" * 100000, "( " * 100000, "a" + " and b" * 100000,
            "a" + " or b" * 100000, "a" * 100000, " " * 100000,
        ])

    def test_forty_words_that_write_nothing(self):
        self.check([("( " * 40)[:-1], ("not " * 40)[:-1], "a" + " and" * 39, (") " * 40)[:-1]])
