"""[11], [12], [13]: programs read from their texts, and read again from their own."""

import itertools
import random
import unittest

from anymeaning.errors import NoProgram, NoTest
from anymeaning.signs import Both, Either, No, Not, Yes
from anymeaning.signwords import read_test
from anymeaning.steps import Choice, Loop, Row, Skip, Stop
from anymeaning.texts import read_program
from tests.helper import A, B, C, D, P, Q, R, S, T, all_of, shape, some_steps, steps_by_size

SINGLE = {"skip": ("Skip",), "stop": ("Stop",), **{name: ("Deed", name) for name in "PQRST"}}


def shape_or_none(text):
    try:
        return shape(read_program(text))
    except NoProgram:
        return None


def other_shape(text):
    """A second reader: it parts the words at the outer `;`, and looks for each brace's end."""
    words = text.split(" ")
    if len(words) > 120 or sum(word in "PQRST" and len(word) == 1 for word in words) > 12:
        return None
    opened = list(itertools.accumulate({"{": 1, "}": -1}.get(word, 0) for word in words))
    if min(opened) < 0 or max(opened) > 20 or opened[-1] != 0:
        return None
    return row_shape(words)


def row_shape(words):
    whole = None
    begin = 0
    opened = 0
    for place, word in enumerate(words + [";"]):
        opened += {"{": 1, "}": -1}.get(word, 0)
        if word == ";" and opened == 0:
            piece = piece_shape(words[begin:place])
            if piece is None:
                return None
            whole = piece if begin == 0 else ("Row", whole, piece)
            begin = place + 1
    return whole


def piece_shape(words):
    if len(words) == 1:
        return SINGLE.get(words[0])
    if "{" not in words or words[-1] != "}":
        return None
    begin = words.index("{")
    end = end_of(words, begin)
    inner = row_shape(words[begin + 1:end])
    if inner is None:
        return None
    if begin == 0:
        return inner if end == len(words) - 1 else None
    test = test_shape(" ".join(words[1:begin]))
    if test is None:
        return None
    if end == len(words) - 1:
        return {"while": ("Loop", test, inner), "if": ("Choice", test, inner, ("Skip",))}.get(words[0])
    if words[0] != "if" or words[end + 1:end + 3] != ["else", "{"] or end_of(words, end + 2) != len(words) - 1:
        return None
    other = row_shape(words[end + 3:-1])
    return None if other is None else ("Choice", test, inner, other)


def end_of(words, begin):
    opened = 0
    for place in range(begin, len(words)):
        opened += {"{": 1, "}": -1}.get(words[place], 0)
        if opened == 0:
            return place
    return None


def test_shape(text):
    try:
        return shape(read_test(text))
    except NoTest:
        return None


class ReadTest(unittest.TestCase):
    def check(self, rows):
        for text, step in rows:
            with self.subTest(text=text):
                self.assertEqual(shape(read_program(text)), shape(step))

    def test_single_words(self):
        self.check([("skip", Skip()), ("stop", Stop()), ("P", P), ("Q", Q), ("R", R), ("S", S), ("T", T)])

    def test_choices(self):
        self.check([
            ("if a { P } else { Q }", Choice(A, P, Q)),
            ("if a { P }", Choice(A, P, Skip())),
            ("if a { P } else { skip }", Choice(A, P, Skip())),
            ("if a { skip } else { P }", Choice(A, Skip(), P)),
            ("if a { stop } else { stop }", Choice(A, Stop(), Stop())),
            ("if not a and b or c { P }", Choice(Either(Both(Not(A), B), C), P, Skip())),
            ("if ( a or b ) and c { P } else { Q }", Choice(Both(Either(A, B), C), P, Q)),
            ("if yes { P }", Choice(Yes(), P, Skip())),
            ("if no { P } else { Q }", Choice(No(), P, Q)),
        ])

    def test_one_choice_in_another(self):
        self.check([
            ("if a { if b { P } else { Q } }", Choice(A, Choice(B, P, Q), Skip())),
            ("if a { if b { P } } else { Q }", Choice(A, Choice(B, P, Skip()), Q)),
            ("if a { if b { P } else { Q } } else { R }", Choice(A, Choice(B, P, Q), R)),
            ("if a { P } else { if b { Q } }", Choice(A, P, Choice(B, Q, Skip()))),
            ("if a { P } else { if b { Q } else { R } }", Choice(A, P, Choice(B, Q, R))),
            ("if a { { if b { P } } } else { Q }", Choice(A, Choice(B, P, Skip()), Q)),
            ("if a { P } ; if b { Q } else { R }", Row(Choice(A, P, Skip()), Choice(B, Q, R))),
            ("if a { P } else { Q } ; if b { R }", Row(Choice(A, P, Q), Choice(B, R, Skip()))),
        ])

    def test_loops(self):
        self.check([
            ("while a { P }", Loop(A, P)),
            ("while not d { skip }", Loop(Not(D), Skip())),
            ("while a { P ; Q }", Loop(A, Row(P, Q))),
            ("while a { while b { P } }", Loop(A, Loop(B, P))),
            ("while a { P } ; Q", Row(Loop(A, P), Q)),
            ("while a { P ; if b { Q } }", Loop(A, Row(P, Choice(B, Q, Skip())))),
        ])

    def test_rows(self):
        self.check([
            ("P ; Q", Row(P, Q)),
            ("P ; Q ; R", Row(Row(P, Q), R)),
            ("P ; Q ; R ; S", Row(Row(Row(P, Q), R), S)),
            ("P ; { Q ; R }", Row(P, Row(Q, R))),
            ("{ P ; Q } ; R", Row(Row(P, Q), R)),
            ("{ P ; Q } ; { R ; S }", Row(Row(P, Q), Row(R, S))),
            ("P ; { Q ; { R ; S } } ; T", Row(Row(P, Row(Q, Row(R, S))), T)),
            ("skip ; stop", Row(Skip(), Stop())),
        ])

    def test_braces(self):
        self.check([
            ("{ P }", P),
            ("{ { skip } }", Skip()),
            ("{ P ; Q }", Row(P, Q)),
            ("{ if a { P } }", Choice(A, P, Skip())),
            ("while a { { P } }", Loop(A, P)),
            ("{ while a { P } } ; { Q }", Row(Loop(A, P), Q)),
        ])

    def test_every_short_text_against_another_reader(self):
        words = ("P", "skip", ";", "{", "}", "if", "else", "while", "a")
        read = 0
        for length in range(1, 6):
            for chosen in itertools.product(words, repeat=length):
                text = " ".join(chosen)
                expected = other_shape(text)
                read += expected is not None
                self.assertEqual(shape_or_none(text), expected, text)
        self.assertGreater(read, 30)

    def test_changed_texts_against_another_reader(self):
        chance = random.Random(11)
        words = ["P", "stop", ";", "{", "}", "if", "else", "while", "a", "not", "or", "(", ")", ""]
        read = 0
        for step in some_steps(12, 3000, 12):
            text = step.text().split(" ")
            place = chance.randrange(len(text) + 1)
            word = chance.choice(words)
            for changed in (
                text, text[:place] + [word] + text[place:], text[:place] + text[place + 1:],
                text[:place] + [word] + text[place + 1:], text[:place] + text[place:][::-1],
                text[:place] + text[place:place + 2][::-1] + text[place + 2:],
                text[:place] + ["{"] + text[place:] + ["}"],
            ):
                changed = " ".join(changed)
                expected = other_shape(changed)
                read += expected is not None
                self.assertEqual(shape_or_none(changed), expected, changed)
        self.assertGreater(read, 4000)


class BoundsTest(unittest.TestCase):
    def check(self, text, words, read):
        self.assertEqual(len(text.split(" ")), words)
        if read:
            self.assertEqual(shape(read_program(text)), other_shape(text))
            self.assertIsNotNone(other_shape(text))
        else:
            self.assertRaises(NoProgram, read_program, text)

    def test_words(self):
        self.check("skip" + " ; skip" * 59, 119, True)
        self.check("{ skip }" + " ; skip" * 58, 119, True)
        self.check("while not a { P }" + " ; skip" * 57, 120, True)
        self.check("skip" + " ; skip" * 60, 121, False)
        self.check("while a { P }" + " ; skip" * 58, 121, False)
        self.check("if a { skip }" + " ; if a { skip }" * 19, 119, True)
        self.check("if a { skip }" + " ; if a { skip }" * 20, 125, False)
        self.check("if a { skip }" + " ; if a { skip }" * 18 + " ; if not a { skip }", 120, True)
        self.check("if a { skip }" + " ; if a { skip }" * 18 + " ; if not not a { skip }", 121, False)

    def test_deeds(self):
        self.check("P" + " ; Q" * 11, 23, True)
        self.check("P" + " ; Q" * 12, 25, False)
        self.check("P ; Q ; R ; S ; T ; P ; Q ; R ; S ; T ; P ; Q", 23, True)
        self.check("P ; Q ; R ; S ; T ; P ; Q ; R ; S ; T ; P ; Q ; T", 25, False)
        self.check("while a { P ; Q ; R }" + " ; if a { P ; S ; T }" * 3, 39, True)
        self.check("while a { P ; Q ; R }" + " ; if a { P ; S ; T }" * 3 + " ; P", 41, False)
        self.check("if a { P }" + " else { Q ; R ; S ; T ; P ; P ; P ; P ; P ; P ; P }", 29, True)
        self.check("if a { P ; P }" + " else { Q ; R ; S ; T ; P ; P ; P ; P ; P ; P ; P }", 31, False)

    def test_open_braces(self):
        for begin, words in (("{ ", 1), ("while a { ", 3), ("if a { ", 3)):
            self.check(begin * 20 + "P" + " }" * 20, 20 * (words + 1) + 1, True)
            self.check(begin * 21 + "P" + " }" * 21, 21 * (words + 1) + 1, False)
        self.check("{ " * 19 + "P ; { Q } ; { R }" + " }" * 19, 47, True)
        self.check("{ " * 19 + "P ; { Q } ; { { R } }" + " }" * 19, 49, False)
        # Many braces, but only twenty open at once.
        self.check("{ " * 20 + "P" + " }" * 20 + " ; " + "{ " * 20 + "Q" + " }" * 20, 83, True)
        # Twenty-one open in the arm behind an else alone.
        self.check("{ " * 20 + "if a { P } else { Q }" + " }" * 20, 49, False)
        self.check("{ " * 19 + "if a { P } else { Q }" + " }" * 19, 47, True)
        self.check("{ " * 19 + "if a { P } else { { Q } }" + " }" * 19, 49, False)

    def test_words_of_a_test(self):
        forty = "not " * 39 + "a"
        longer = "not " * 40 + "a"
        chain = "not a" + " and b" * 19
        for begin in ("if ", "while ", "P ; while ", "if a { Q } ; if "):
            count = len(begin.split(" ")) - 1
            self.check(begin + forty + " { P }", count + 43, True)
            self.check(begin + longer + " { P }", count + 44, False)
            self.check(begin + chain + " { P }", count + 43, True)
            self.check(begin + chain + " and b { P }", count + 45, False)
        self.check("if " + forty + " { P } else { while " + forty + " { Q } }", 91, True)
        self.check("if " + forty + " { P } else { while " + longer + " { Q } }", 92, False)

    def test_far_longer_texts(self):
        for text in (
            "{ " * 100000 + "P" + " }" * 100000, "{ " * 100000, "P" + " ; P" * 100000, "skip" + " ; skip" * 100000,
            "while a { " * 100000 + "P" + " }" * 100000, "if " + "not " * 100000 + "a { P }", "} " * 100000,
            "if a { P } else { " * 100000, "P" * 100000, " " * 100000, "while " * 100000, "( " * 100000,
        ):
            self.assertRaises(NoProgram, read_program, text)

    def test_deep_texts_within_the_words(self):
        for text in (
            "{ " * 119 + "{", "{ " * 59 + "P" + " }" * 59, "while a { " * 29 + "P" + " }" * 29, "if " * 119 + "if",
            "if " + "( " * 50 + "a" + " )" * 50 + " { P }", "while " * 119 + "while", "} " * 119 + "}",
            "if a { P } else { " * 12 + "P" + " }" * 23,
        ):
            self.assertLessEqual(len(text.split(" ")), 120)
            self.assertRaises(NoProgram, read_program, text)


class RefusedTest(unittest.TestCase):
    def check(self, texts):
        for text in texts:
            with self.subTest(text=text[:60]):
                with self.assertRaises(NoProgram) as taken:
                    read_program(text)
                self.assertIs(type(taken.exception), NoProgram)

    def test_no_word(self):
        self.check(["", " ", "  ", "\n", "\t"])

    def test_words_that_are_none(self):
        self.check([
            "U", "O", "p", "PQ", "PQRST", "x", "a", "yes", "no", "not P", "P and Q", "P or Q", "( P )", "P , Q",
            "halt", "do", "then", "P ; x", "x ; P", "{ x }", "while a { x }", "if a { x }", "if a { P } else { x }",
            "if a { P } elif b { Q }", "for a { P }", "unless a { P }", "P.", "-P", "1", "None", "skip.", "done",
            "if a then { P }", "while a do { P }", "pass", "stopp", "ski",
        ])

    def test_words_too_few(self):
        self.check([
            ";", "P ;", "; P", "P ; ; Q", "; ;", "{ }", "{ ; }", "{ P ; }", "{ ; P }", "while", "if", "else", "while a",
            "if a", "while { P }", "if { P }", "while a P", "if a P", "while a { }", "if a { }", "if a { P } else",
            "if a { P } else { }", "if a { P } else Q", "if a { P } else ; Q", "if a { } else { P }", "while a ; P",
            "if a { P } else { Q", "if { P } else { Q }", "while a {", "if a {", "P ; while", "P ; if a",
        ])

    def test_words_too_many(self):
        self.check([
            "P Q", "P P", "skip skip", "P skip", "P { Q }", "{ P } Q", "{ P } { Q }", "while a { P } Q",
            "while a { P } { Q }", "while a { P } else { Q }", "if a { P } Q", "if a { P } { Q }",
            "if a { P } else { Q } else { R }", "if a { P } else { Q } R", "else { P }", "P else { Q }",
            "{ P } else { Q }", "if a { P } ; else { Q }", "if if a { P }", "while while a { P }",
            "while if a { P }", "while a while b { P }", "if a { P } else else { Q }", "if a { P } else if b { Q }",
            "if a { P } else while b { Q }", "P if a { Q }", "{ P } ; else { Q }", "while a a { P }",
        ])

    def test_braces_that_do_not_match(self):
        self.check([
            "{", "}", "{ P", "P }", "{ { P }", "{ P } }", "} P {", "} {", "while a { P", "while a P }", "if a { P } }",
            "if a { P } else { Q } }", "if a { { P }", "P ; { Q", "P ; Q }", "while a { if b { P }", "{ P } ; Q }",
            "if a { P else { Q } }", "if a P } else { Q }", "{ P ; } Q", "while a } P {", "( P }",
        ])

    def test_braces_without_a_blank(self):
        self.check([
            "{P}", "{ P}", "{P }", "while a {P}", "while a{ P }", "if a { P }else { Q }", "if a { P } else{ Q }",
            "P; Q", "P ;Q", "P;Q", "{}", "{{ P }}", "while(a) { P }", "if (a) { P }", "while a { P };",
        ])

    def test_blanks(self):
        self.check([
            " P", "P ", " P ", "P  ; Q", "P ;  Q", "while  a { P }", "while a  { P }", "while a {  P }",
            "while a { P  }", "if a { P }  else { Q }", "if a { P } else  { Q }", "if a { P } ", " if a { P }",
            "skip ", " skip", "{  P }", "if not  a { P }", "if a and  b { P }", "if  { P }", "while  { P }",
        ])

    def test_other_signs_for_the_blank(self):
        signs = [
            "\n", "\t", "\r", "\v", "\f", "\r\n", "\x00", "\x1c", "\x1d", "\x1e", "\x1f", "\x85", "\xa0", "\u1680",
            "\u2003", "\u2009", "\u200b", "\u2028", "\u2029", "\u3000", "\ufeff", "_", "+",
        ]
        for sign in signs:
            self.check([
                f"P{sign}", f"{sign}P", f"P{sign};{sign}Q", f"P ;{sign}Q", f"P{sign}; Q", f"while{sign}a {{ P }}",
                f"while a{sign}{{ P }}", f"while a {{{sign}P }}", f"while a {{ P{sign}}}", f"if a {{ P }}{sign}",
                f"if a {{ P }} else{sign}{{ Q }}", f"if a {{ P }}{sign}else {{ Q }}", f"if not{sign}a {{ P }}",
                f"skip{sign}", f"{sign}skip", f"P {sign} Q", f"P {sign}; Q", f"while a {sign}{{ P }}",
            ])

    def test_another_size_of_letters(self):
        self.check([
            "p", "q", "r", "s", "t", "Skip", "SKIP", "Stop", "STOP", "If a { P }", "IF a { P }", "While a { P }",
            "WHILE a { P }", "if a { P } Else { Q }", "if a { P } ELSE { Q }", "if A { P }", "while A { P }",
            "while not B { P }", "if NOT a { P }", "if a AND b { P }", "if Yes { P }", "P ; q",
        ])

    def test_signs_that_only_look_like_letters(self):
        self.check(["\u0420", "\uff30", "\u03a4", "P\u0301", "\uff5b P \uff5d", "P \uff1b Q", "while \u0430 { P }"])

    def test_tests_that_are_none(self):
        for test in (
            "e", "P", "a b", "a and", "and a", "not", "( a", "a )", "( )", "a or or b", "", "skip", "a ; b", "a , b",
            "ab", "A", "nota", "( a ) ( b )", "yes no", "not not", "a not b", "else", "if a", "a else",
        ):
            self.check([
                f"if {test} {{ P }}", f"if {test} {{ P }} else {{ Q }}", f"while {test} {{ P }}",
                f"P ; while {test} {{ Q }}", f"while a {{ if {test} {{ P }} }}",
                f"if a {{ P }} else {{ if {test} {{ P }} }}",
            ])

    def test_a_word_in_the_wrong_place(self):
        self.check([
            "a while { P }", "{ P } while a", "P if a", "{ a }", "while P { a }", "if a ; { P }", "while a { P } ; ;",
            "if { a } { P }", "while { a } { P }", "if a { P } { else } { Q }", "; { P }", "{ P } ;", "a ; P",
        ])


class AgainTest(unittest.TestCase):
    def check(self, step):
        text = step.text()
        self.assertEqual(shape(read_program(text)), shape(step), text)

    def test_each_kind_in_each_place_of_another(self):
        kinds = [
            Skip(), Stop(), P, Row(P, Q), Row(Row(P, Q), R), Row(P, Row(Q, R)), Row(Skip(), Skip()), Choice(A, P, Q),
            Choice(A, P, Skip()), Choice(A, Skip(), P), Choice(A, Skip(), Skip()), Choice(A, P, Row(Skip(), Skip())),
            Loop(A, P), Loop(A, Skip()),
        ]
        tests = [Yes(), No(), D, Not(A), Both(A, B), Either(A, B), Both(A, Either(B, C)), Not(Both(A, Both(B, C)))]
        for one in kinds:
            self.check(one)
            for test in tests:
                self.check(Loop(test, one))
            for two in kinds:
                self.check(Row(one, two))
                for test in tests:
                    self.check(Choice(test, one, two))

    def test_own_texts_in_each_place(self):
        inner = {
            "skip": Skip(), "stop": Stop(), "T": T, "S ; T": Row(S, T), "S ; { T ; P }": Row(S, Row(T, P)),
            "if d { T } else { S }": Choice(D, T, S), "if d { T }": Choice(D, T, Skip()), "while d { T }": Loop(D, T),
        }
        for text, step in inner.items():
            self.assertEqual(Row(step, P).text(), text + " ; P")
            self.assertEqual(Row(P, step).text(), "P ; { " + text + " }" if isinstance(step, Row) else "P ; " + text)
            self.assertEqual(Choice(A, step, P).text(), "if a { " + text + " } else { P }")
            no = "" if isinstance(step, Skip) else " else { " + text + " }"
            self.assertEqual(Choice(A, P, step).text(), "if a { P }" + no)
            self.assertEqual(Loop(A, step).text(), "while a { " + text + " }")

    def test_all_small_programs(self):
        for step in all_of(steps_by_size([Skip(), Stop(), P], [A, Not(B)], 5)):
            self.check(step)

    def test_many_programs(self):
        read = 0
        for step in some_steps(13, 2000, 40):
            text = step.text()
            expected = other_shape(text)
            self.assertEqual(shape_or_none(text), expected, text)
            if expected is not None:
                read += 1
                self.assertEqual(expected, shape(step))
        self.assertGreater(read, 1000)

    def test_read_and_told_and_read_again(self):
        for text in (
            "{ P ; { Q } } ; { { R } ; S }", "if ( a ) { { P } } else { skip }", "{ while ( not a ) { { P } } }",
        ):
            step = read_program(text)
            self.check(step)
            self.assertEqual(read_program(step.text()).text(), step.text())

    def test_one_program_in_several_places(self):
        loop = Loop(A, P)
        self.check(Row(Row(loop, loop), Choice(B, loop, loop)))

    def test_own_texts_beyond_the_bounds_are_refused(self):
        deep = P
        for _ in range(21):
            deep = Loop(A, deep)
        long = Skip()
        for _ in range(60):
            long = Row(long, Skip())
        for step in (deep, long):
            self.assertRaises(NoProgram, read_program, step.text())
