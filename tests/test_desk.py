"""[41], [42]: the desk, what it answers and what it refuses."""

import random
import unittest

from anymeaning.bonds import is_due
from anymeaning.desk import Desk
from anymeaning.errors import MeaningError, NoName, NoProgram, NoRow, NoSaying, NoTest, TooMuch
from anymeaning.judge import Alike, Apart, judged
from anymeaning.marks import Broken, Kept, marked
from anymeaning.short import shorten, weight_of
from anymeaning.texts import read_program
from tests.helper import pairs_of_programs, some_saying, some_test

HEAVY = "while yes { P ; Q ; R ; S ; T ; P ; Q ; R ; S ; T ; P ; Q } ; { skip ; skip }"
FORTY = "while yes { P ; Q ; R ; S ; T ; P ; Q ; R ; S ; T ; P ; if a { stop } }"


def word_of(words):
    """The settings and deeds of a written word."""
    pieces = words.split(" ")
    return ([int(piece) for piece in pieces[::2]], "".join(pieces[1::2]))


class DeskCase(unittest.TestCase):
    def setUp(self):
        self.desk = Desk()

    def said(self, *rows):
        """Each row and its answer in turn."""
        for row, answer in zip(rows[::2], rows[1::2]):
            with self.subTest(row=row):
                told = self.desk.say(row)
                self.assertIs(type(told), str)
                self.assertEqual(told, answer)

    def refused(self, kind, *rows):
        for row in rows:
            with self.subTest(row=row):
                with self.assertRaises(MeaningError) as taken:
                    self.desk.say(row)
                self.assertIs(type(taken.exception), kind)


class AnswersTest(DeskCase):
    def test_let_and_show(self):
        self.said(
            "let x P", "ok", "show x", "P",
            "let y { P ; { Q ; R } }", "ok", "show y", "P ; { Q ; R }",
            "let abcdefgh if ( a ) { P } else { skip }", "ok", "show abcdefgh", "if a { P }",
            "let z while not not a { { stop } }", "ok", "show z", "while not not a { stop }",
            "show x", "P",
        )

    def test_names_let_anew(self):
        self.said(
            "let x P", "ok", "show x", "P", "let x Q ; R", "ok", "show x", "Q ; R", "let y P", "ok",
            "alike x y", "apart 0", "let x P", "ok", "alike x y", "alike",
        )

    def test_names_like_words(self):
        self.said(
            "let let P", "ok", "show let", "P", "let show Q", "ok", "show show", "Q", "let skip R", "ok",
            "show skip", "R", "let a stop", "ok", "show a", "stop", "let if P", "ok", "alike if let", "alike",
        )

    def test_each_small_letter(self):
        for letter in "abcdefghijklmnopqrstuvwxyz":
            self.said("let " + letter + " P", "ok", "show " + letter, "P")
        self.said("let qrstuvwx P", "ok", "let ijklmnop Q", "ok", "show ijklmnop", "Q")

    def test_say_and_due(self):
        self.said(
            "due nowhere a", "no", "due nowhere no", "yes", "due behind P : a : b", "no",
            "say nowhere a and b", "ok", "due nowhere a and b", "yes", "due nowhere b and a and c", "yes",
            "due nowhere a", "no", "due behind Q : yes : not a or not b", "yes",
            "say behind P : a : c", "ok", "due behind P : a and d : c or b", "yes", "due through P : a", "no",
            "say through P : a", "ok", "due through P : not a", "yes", "due behind P : a : a and c", "yes",
        )

    def test_eight_sayings(self):
        for _ in range(8):
            self.said("say nowhere a", "ok")
        self.said("due nowhere a", "yes", "due nowhere b", "no")

    def test_alike(self):
        self.said(
            "let x if a { P } ; if a { Q }", "ok", "let y if a { P ; Q }", "ok", "alike x x", "alike",
        )
        told = self.desk.say("alike x y").split(" ", 1)
        self.assertEqual(told[0], "apart")
        settings, deeds = word_of(told[1])
        self.assertEqual((settings[0] & 1, settings[1] & 1, deeds), (1, 0, "P"))
        self.said("say through P : a", "ok", "alike x y", "alike", "alike y x", "alike")

    def test_apart_in_words(self):
        self.said("let x P ; Q ; R", "ok", "let y P ; Q ; S", "ok",
            "say nowhere not ( a and b and not c and not d )", "ok")
        self.said("alike x y", "apart 3 P 3 Q 3", "let z skip", "ok", "alike x z", "apart 3", "alike y z", "apart 3")
        desk = Desk()
        desk.say("say nowhere not ( a and b and c and d )")
        desk.say("let x P")
        desk.say("let y P ; T")
        self.assertEqual(desk.say("alike x y"), "apart 15 P 15")
        self.assertEqual(desk.say("holds x : a : not a"), "broken 15 P 15")

    def test_holds(self):
        self.said(
            "let x while a { P }", "ok", "holds x : yes : not a", "kept", "holds x : b : not a", "kept",
            "holds x : no : no", "kept", "holds x : not ( a or b or c or d ) : b", "broken 0",
        )
        told = self.desk.say("holds x : a : b").split(" ", 1)
        self.assertEqual(told[0], "broken")
        settings, deeds = word_of(told[1])
        self.assertEqual((settings[0] & 1, settings[1] & 3, deeds), (1, 0, "P"))
        self.said(
            "say behind P : yes : b", "ok", "holds x : a : b", "kept", "let y stop", "ok", "holds y : yes : no", "kept",
        )

    def test_before_is_the_first_test(self):
        self.said(
            "let x P", "ok", "say behind P : a : b", "ok", "say behind P : not a : not b", "ok", "holds x : a : b",
            "kept",
        )
        self.assertTrue(self.desk.say("holds x : b : a").startswith("broken "))

    def test_short(self):
        self.said(
            "let x skip ; P ; skip", "ok", "short x", "P", "show x", "P", "short x", "P",
            "let y if a { P } else { Q }", "ok", "short y", "if a { P } else { Q }", "say nowhere not a", "ok",
            "short y", "P", "show y", "P", "alike x y", "alike",
            "let z while a { P } ; Q", "ok", "short z", "while a { P }", "show z", "while a { P }",
        )

    def test_a_weight_of_forty(self):
        self.said("let x " + FORTY + " ; skip", "ok")
        self.said("short x", FORTY, "show x", FORTY)

    def test_under_the_sayings_kept_then(self):
        self.said(
            "let x if a { P } else { Q }", "ok", "let y P", "ok", "say nowhere not a", "ok", "alike x y", "alike",
            "say nowhere a", "ok", "let z stop", "ok", "alike x z", "alike", "holds x : yes : no", "kept",
            "due nowhere yes", "yes", "short x", "skip",
        )

    def test_two_desks_beside_each_other(self):
        other = Desk()
        self.said("let x P", "ok", "say nowhere a", "ok")
        self.assertRaises(NoName, other.say, "show x")
        self.assertEqual(other.say("due nowhere a"), "no")
        self.assertEqual(other.say("let x Q"), "ok")
        self.said("show x", "P", "due nowhere a", "yes")
        self.assertEqual(other.say("show x"), "Q")
        for _ in range(8):
            other.say("say nowhere b")
        self.said("say nowhere c", "ok", "due nowhere b", "no")

    def test_many_rows_against_the_functions(self):
        chance = random.Random(411)
        answers = {}
        for one, other, sayings in pairs_of_programs(412, 150, 9):
            if max(len(one.text().split(" ")), len(other.text().split(" "))) > 120:
                continue
            desk = Desk()
            for saying in sayings:
                self.assertEqual(desk.say("say " + saying.text()), "ok")
            self.assertEqual(desk.say("let one " + one.text()), "ok")
            self.assertEqual(desk.say("let other " + other.text()), "ok")
            told = desk.say("alike one other")
            if isinstance(judged(one, other, sayings), Alike):
                self.assertEqual(told, "alike")
            else:
                word, rest = told.split(" ", 1)
                self.assertEqual(word, "apart")
                self.assertIs(Apart(*word_of(rest)).stands(one, other, sayings), True)
                self.assertEqual(len(word_of(rest)[1]), len(judged(one, other, sayings).deeds))
            answers[told.split(" ")[0]] = True
            before, after = some_test(chance, 3), some_test(chance, 3)
            told = desk.say("holds one : " + before.text() + " : " + after.text())
            if isinstance(marked(before, one, after, sayings), Kept):
                self.assertEqual(told, "kept")
            else:
                word, rest = told.split(" ", 1)
                self.assertEqual(word, "broken")
                self.assertIs(Broken(*word_of(rest)).stands(before, one, after, sayings), True)
            answers[told.split(" ")[0]] = True
            saying = some_saying(chance)
            self.assertEqual(desk.say("due " + saying.text()), "yes" if is_due(sayings, saying) else "no")
            if weight_of(one) <= 40:
                last = shorten(one, sayings)[-1].text()
                self.assertEqual(desk.say("short one"), last)
                self.assertEqual(desk.say("show one"), last)
            self.assertEqual(desk.say("show other"), other.text())
        self.assertEqual(sorted(answers), ["alike", "apart", "broken", "kept"])


class RefusedTest(DeskCase):
    def setUp(self):
        super().setUp()
        self.said("let x P", "ok", "let heavy " + HEAVY, "ok", "say nowhere d", "ok")

    def tearDown(self):
        """Whatever was refused has changed nothing."""
        self.said("show x", "P", "show heavy", HEAVY, "due nowhere d", "yes", "due nowhere a", "no")
        self.refused(NoName, "show y", "show q")
        for _ in range(7):
            self.said("say nowhere d", "ok")
        self.refused(TooMuch, "say nowhere d")

    def test_no_text(self):
        for row in (None, 0, 1, True, ["show x"], ("show x",), {}, b"show x", [], 3, object()):
            with self.assertRaises(NoRow):
                self.desk.say(row)

    def test_another_word_first(self):
        self.refused(
            NoRow, "", " ", "  ", " show x", "Show x", "SHOW x", "shows x", "sho x", "tell x", "x P", "let: x P",
            "\nshow x",
            "say: nowhere a", "quit ", "done x", "alikes x x", "hold x : a : b", "shorten x", ": x", "shorter x",
            "help me",
        )

    def test_no_blank_behind_it(self):
        self.refused(
            NoRow, "say", "due", "let", "show", "alike", "holds", "short", "show\tx", "show\nx", "show\xa0x", "letxP",
            "x", "say:", "short\n", "sayno", "nowhere",
        )

    def test_form_of_let(self):
        self.refused(NoRow, "let x", "let ", "let y", "let xP", "let x\tP", "let X", "let P", "let 1")

    def test_form_of_show_and_short(self):
        for word in ("show", "short"):
            self.refused(
                NoRow, word + " x x", word + "  x", word + " x ", word + "  ", word + " y z", word + " X Y",
                word + " x y z",
            )

    def test_form_of_alike(self):
        self.refused(
            NoRow, "alike ", "alike x", "alike xx", "alike X", "alike x  x", "alike x x x", "alike  x x", "alike x x ",
            "alike   ", "alike y", "alike y z w", "alike x,x",
        )

    def test_form_of_holds(self):
        self.refused(
            NoRow, "holds ", "holds x", "holds x a b", "holds x : a", "holds x : a : b : c", "holds x :a : b",
            "holds x: a : b", "holds x : a: b", "holds x : a :b", "holds x:a:b", "holds : a : b", "holds y", "holds X",
            "holds y : e", "holds x : a :\tb", "holds x : a ; b", "holds x : a : b : ", "holds : ", "holds  : ",
            "holds x : a : b : c : d",
        )

    def test_parted_from_the_left(self):
        # Of `x : : b` the first piece is `x`, then `: b` is left, and so there are two pieces.
        self.refused(NoRow, "holds x : : b")
        self.refused(NoTest, "holds x : : a : b", "holds x : a : : b", "holds x :  : b", "holds x : a : ",
            "holds x :  : ")
        self.refused(NoName, "holds  : a : b", "holds x  : a : b", "holds  x : a : b", "holds x y : a : b",
            "holds : : a : b")

    def test_names_that_are_none(self):
        for name in (
            "", "X", "xX", "x1", "1", "abcdefghi", "x_", "_", "x-", "x.", "a\n", "\n", "\t", "\xe4", "\xdf",
            "\u03b1", "P",
            "xyzxyzxyzxyz", ":", "{", "\uff41", "x\x00", "a" * 1000,
        ):
            self.refused(
                NoName, "let " + name + " P", "show " + name, "short " + name, "alike " + name + " x",
                "alike x " + name,
                "holds " + name + " : a : b", "alike " + name + " " + name,
            )

    def test_names_for_which_no_program_stands(self):
        for name in ("y", "xx", "p", "abcdefgh", "heav", "let"):
            self.refused(
                NoName, "show " + name, "short " + name, "alike " + name + " x", "alike x " + name,
                "alike " + name + " " + name, "holds " + name + " : a : b",
            )

    def test_names_go_ahead_of_texts(self):
        self.refused(
            NoName, "let X Y", "let X ", "let  ", "let  P", "let X P ; ", "let X {", "let abcdefghi U",
            "holds y : e : f",
            "holds X : e : a", "holds y :  : ", "holds y : a : e", "holds X : a : b",
        )

    def test_form_goes_ahead_of_names(self):
        self.refused(NoRow, "let X", "let abcdefghijkl", "show X Y", "short Y Z", "alike X", "alike X Y Z",
            "holds Y : a")

    def test_sayings_that_are_none(self):
        for word in ("say", "due"):
            self.refused(
                NoSaying, word + " ", word + "  ", word + " a", word + " nowhere", word + " nowhere ",
                word + "  nowhere a",
                word + " nowhere a ", word + " nowhere e", word + " behind P : a", word + " behind U : a : b",
                word + " through P : a : b", word + " say nowhere a", word + " Nowhere a", word + " nowhere a\n",
                word + " nowhere " + "not " * 40 + "a", word + " x", word + " x x",
            )

    def test_programs_that_are_none(self):
        self.refused(
            NoProgram, "let x ", "let x  ", "let x  P", "let x P ", "let x U", "let x P ;", "let x P Q", "let x { P",
            "let x if e { P }", "let x while { P }", "let x P\n", "let x p", "let y U", "let y x", "let x x",
            "let x " + "{ " * 21 + "P" + " }" * 21, "let x P" + " ; P" * 12, "let y skip" + " ; skip" * 60,
            "let x while " + "not " * 40 + "a { P }", "let heavy show",
        )

    def test_tests_that_are_none(self):
        self.refused(
            NoTest, "holds x : e : a", "holds x : a : e", "holds x : e : e", "holds x : a b : a", "holds x : a : b ",
            "holds x :  a : b", "holds x : A : b", "holds x : a : b\n", "holds x : " + "not " * 40 + "a : b",
            "holds x : a : " + "not " * 40 + "a", "holds x : a: : b", "holds heavy : : : a",
        )

    def test_forty_words_are_read(self):
        self.said("holds x : " + "not " * 39 + "a : yes", "kept")

    def test_too_much(self):
        self.refused(TooMuch, "short heavy")
        self.said("let x " + HEAVY, "ok")
        self.refused(TooMuch, "short x")
        self.said("let x skip ; P", "ok", "short x", "P")

    def test_just_too_heavy(self):
        for text, weight, fits in ((FORTY + " ; skip", 40, True), (FORTY + " ; P", 41, False), (HEAVY, 41, False)):
            self.assertEqual(weight_of(read_program(text)), weight)
            desk = Desk()
            desk.say("let x " + text)
            if fits:
                self.assertEqual(desk.say("short x"), FORTY)
            else:
                self.assertRaises(TooMuch, desk.say, "short x")
                self.assertEqual(desk.say("show x"), text)


class NinthSayingTest(DeskCase):
    def test_the_ninth(self):
        for text in ("a", "b", "a and b", "not c and a", "no", "a", "a", "a"):
            self.said("say nowhere " + text, "ok")
        self.refused(TooMuch, "say nowhere c", "say behind P : a : b", "say through P : a", "say nowhere a")
        # The texts go first, and due asks for no room.
        self.refused(NoSaying, "say nowhere e", "say ", "say nowhere")
        self.refused(NoRow, "say", "said nowhere a")
        self.said("due nowhere c", "no", "due nowhere a", "yes")
        self.said("let x P ; if a { Q }", "ok", "short x", "P")

    def test_refused_sayings_do_not_count(self):
        for _ in range(20):
            self.refused(NoSaying, "say nowhere e")
        for _ in range(8):
            self.said("say nowhere a", "ok")
        self.refused(TooMuch, "say nowhere a")


class OrderTest(DeskCase):
    def test_heavy_programs_are_asked_last(self):
        self.said("let x " + HEAVY, "ok")
        self.refused(NoRow, "short x x", "short x ")
        self.refused(NoName, "short y", "short X")
        self.refused(TooMuch, "short x")
        self.said("show x", HEAVY, "alike x x", "alike", "holds x : yes : no", "kept")

    def test_from_the_left(self):
        self.said("let x P", "ok")
        self.refused(NoName, "alike x y", "alike y x", "alike y z", "alike X x", "alike x X")
        self.refused(NoTest, "holds x : e : a", "holds x : a : e")

    def test_let_needs_no_program_ahead(self):
        self.said("let new P", "ok", "let new Q", "ok", "show new", "Q")

    def test_a_refused_let_keeps_the_old_program(self):
        self.said("let x P", "ok")
        self.refused(NoProgram, "let x U")
        self.said("show x", "P")
        self.refused(NoProgram, "let y U")
        self.refused(NoName, "show y")
