"""[2], [37] to [40]: weights, shorter programs, and programs shortened."""

import random
import unittest

from anymeaning.judge import Alike, judged
from anymeaning.saywords import read_saying
from anymeaning.short import shorten, shorter, weight_of
from anymeaning.steps import Choice, Deed, Loop, Row, Skip, Stop
from anymeaning.texts import read_program
from tests.helper import (
    A, B, FIELDS, P, Plain, Q, R, all_of, sayings_of, shape, some_sayings, some_steps, steps_by_size,
)

OWN = {"Row": (1, 2), "Choice": (2, 3), "Loop": (2,)}


def plain_weight(whole):
    """The weight of a program told by its shape."""
    base = {"Skip": 1, "Stop": 1, "Deed": 2, "Row": 1, "Choice": 1, "Loop": 2}[whole[0]]
    return base + sum(plain_weight(whole[place]) for place in OWN.get(whole[0], ()))


def places(whole):
    """The paths of a program's places by [38]: itself, then those of its own programs."""
    found = [()]
    for place in OWN.get(whole[0], ()):
        found += [(place,) + path for path in places(whole[place])]
    return found


def at(whole, path):
    for place in path:
        whole = whole[place]
    return whole


def replaced(whole, path, part):
    if not path:
        return part
    return whole[:path[0]] + (replaced(whole[path[0]], path[1:], part),) + whole[path[0] + 1:]


def plain_shorter(whole):
    """The shorter programs by [39], all as shapes."""
    found = []
    for path in places(whole):
        here = at(whole, path)
        for part in [("Skip",), ("Stop",)] + [here[place] for place in OWN.get(here[0], ())]:
            found.append(replaced(whole, path, part))
    return [other for other in found if plain_weight(other) < plain_weight(whole)]


class WeightTest(unittest.TestCase):
    def test_each_kind(self):
        for text, weight in (
            ("skip", 1), ("stop", 1), ("P", 2), ("T", 2), ("P ; Q", 5), ("skip ; stop", 3),
            ("if a { P } else { Q }", 5),
            ("if a { P }", 4), ("if a and b or not c { skip }", 3), ("while a { P }", 4), ("while a and b { skip }", 3),
            ("while a { P ; Q }", 7), ("while a { while b { stop } }", 5), ("P ; Q ; R", 8), ("P ; { Q ; R }", 8),
            ("if a { while b { P } } else { stop ; Q }", 9),
        ):
            with self.subTest(text=text):
                self.assertEqual(weight_of(read_program(text)), weight)

    def test_many_programs(self):
        for step in some_steps(371, 200, 60):
            self.assertEqual(weight_of(step), plain_weight(shape(step)))

    def test_one_program_in_several_places(self):
        loop = Loop(A, P)
        self.assertEqual(weight_of(Row(loop, Row(loop, loop))), 14)

    def test_largest_programs(self):
        step = P
        for _ in range(119):
            step = Loop(A, step)
        self.assertEqual(weight_of(step), 240)


class ShorterTest(unittest.TestCase):
    def check(self, text, told):
        with self.subTest(text=text):
            answer = shorter(read_program(text))
            self.assertIs(type(answer), list)
            self.assertEqual([step.text() for step in answer], told)

    def test_single_programs(self):
        self.check("skip", [])
        self.check("stop", [])
        self.check("P", ["skip", "stop"])

    def test_rows(self):
        self.check("P ; Q", ["skip", "stop", "P", "Q", "skip ; Q", "stop ; Q", "P ; skip", "P ; stop"])
        self.check("skip ; stop", ["skip", "stop", "skip", "stop"])
        self.check("P ; skip", ["skip", "stop", "P", "skip", "skip ; skip", "stop ; skip"])
        self.check("P ; { skip ; Q }", [
            "skip", "stop", "P", "skip ; Q", "skip ; { skip ; Q }", "stop ; { skip ; Q }", "P ; skip", "P ; stop",
            "P ; skip", "P ; Q", "P ; { skip ; skip }", "P ; { skip ; stop }",
        ])

    def test_choices(self):
        self.check("if a { P } else { Q }", [
            "skip", "stop", "P", "Q", "if a { skip } else { Q }", "if a { stop } else { Q }", "if a { P }",
            "if a { P } else { stop }",
        ])
        self.check("if a { skip }", ["skip", "stop", "skip", "skip"])

    def test_loops(self):
        self.check("while a { P }", ["skip", "stop", "P", "while a { skip }", "while a { stop }"])
        self.check("while a { skip }", ["skip", "stop", "skip"])
        self.check("while a { stop }", ["skip", "stop", "stop"])
        self.check("while a { P ; skip }", [
            "skip", "stop", "P ; skip", "while a { skip }", "while a { stop }", "while a { P }", "while a { skip }",
            "while a { skip ; skip }", "while a { stop ; skip }",
        ])

    def test_told_as_often_as_they_come(self):
        self.check("skip ; skip ; skip", [
            "skip", "stop", "skip ; skip", "skip", "skip ; skip", "stop ; skip", "skip ; skip", "skip ; skip",
        ])

    def test_small_programs(self):
        for step in all_of(steps_by_size([Skip(), Stop(), P, Q], [A], 5)):
            self.assertEqual([shape(other) for other in shorter(step)], plain_shorter(shape(step)), step.text())

    def test_many_programs(self):
        for step in some_steps(391, 150, 50):
            before = shape(step)
            self.assertEqual([shape(other) for other in shorter(step)], plain_shorter(before), step.text())
            self.assertEqual(shape(step), before)

    def test_one_program_in_several_places(self):
        row = Row(P, Q)
        for step in (Row(row, row), Choice(A, row, row), Loop(B, Row(row, Row(row, P))), Row(P, P)):
            before = shape(step)
            told = shorter(step)
            self.assertEqual([shape(other) for other in told], plain_shorter(before))
            self.assertEqual(shape(step), before)

    def test_largest_programs(self):
        deep = P
        for _ in range(119):
            deep = Loop(A, deep)
        self.assertEqual(len(shorter(deep)), 119 * 3 + 2)
        row = P
        for _ in range(59):
            row = Row(row, Skip())
        self.assertEqual([shape(other) for other in shorter(row)], plain_shorter(shape(row)))

    def test_each_list_is_new(self):
        step = Row(P, Loop(A, Q))
        told = shorter(step)
        count = len(told)
        told.clear()
        self.assertEqual(len(shorter(step)), count)


class ShortenTest(unittest.TestCase):
    def check(self, text, told, *sayings):
        with self.subTest(text=text, sayings=sayings):
            answer = shorten(read_program(text), sayings_of(*sayings))
            self.assertIs(type(answer), list)
            self.assertEqual([step.text() for step in answer], told)

    def test_what_is_short_already(self):
        for text in ("skip", "stop", "P", "P ; Q", "while a { P }", "if a { P }", "while a { skip }", "P ; stop"):
            self.check(text, [text])

    def test_step_by_step(self):
        self.check("skip ; P", ["skip ; P", "P"])
        self.check("P ; skip ; skip", ["P ; skip ; skip", "P ; skip", "P"])
        self.check("stop ; P ; Q", ["stop ; P ; Q", "stop"])
        self.check("if a { P } else { P }", ["if a { P } else { P }", "P"])
        self.check("while a { P } ; while a { Q }", ["while a { P } ; while a { Q }", "while a { P }"])
        self.check("P ; stop ; Q", ["P ; stop ; Q", "P ; stop"])
        self.check("while yes { P } ; Q", ["while yes { P } ; Q", "while yes { P }"])
        self.check("while yes { P ; P }", ["while yes { P ; P }", "while yes { P }"])
        self.check("while no { P ; Q }", ["while no { P ; Q }", "skip"])
        self.check("while a { while a { P } }", ["while a { while a { P } }", "while a { P }"])
        self.check("if yes { P } else { Q }", ["if yes { P } else { Q }", "P"])
        self.check("if a { skip } else { if a { P } else { Q } }", [
            "if a { skip } else { if a { P } else { Q } }", "if a { skip } else { Q }",
        ])
        self.check("while a { skip ; skip }", ["while a { skip ; skip }", "while a { skip }"])

    def test_under_sayings(self):
        self.check("if a { P } else { Q }", ["if a { P } else { Q }", "P"], "nowhere not a")
        self.check("if a { P } ; if a { Q }", ["if a { P } ; if a { Q }"])
        self.check("if a { P ; if a { Q } }", ["if a { P ; if a { Q } }", "if a { P ; Q }"], "through P : a")
        self.check("P ; while a { P }", ["P ; while a { P }", "P"], "behind P : yes : not a")
        self.check("while a { P ; Q }", ["while a { P ; Q }"], "nowhere b")
        self.check("P ; Q ; while a { R }", ["P ; Q ; while a { R }", "skip"], "nowhere yes")
        self.check("while a { P }", ["while a { P }", "skip"], "behind T : a : no")

    def test_the_first_is_the_program_itself(self):
        step = Row(Skip(), P)
        before = shape(step)
        told = shorten(step, [])
        self.assertIs(told[0], step)
        self.assertEqual(shape(step), before)

    def plain_list(self, step, sayings):
        """The list by [40], with plain searches for what is alike."""
        found = [step]
        while True:
            ahead = found[-1]
            alike = [other for other in shorter(ahead) if Plain(ahead, other, sayings).shortest() is None]
            if not alike:
                return found
            found.append(alike[0])

    def test_small_programs_against_a_plain_search(self):
        for step in all_of(steps_by_size([Skip(), Stop(), P], [A], 4)):
            for sayings in ([], [read_saying("through P : a")]):
                expected = [shape(other) for other in self.plain_list(step, sayings)]
                self.assertEqual([shape(other) for other in shorten(step, sayings)], expected, step.text())

    def test_many_programs_against_a_plain_search(self):
        chance = random.Random(401)
        longest = 0
        for step in some_steps(402, 40, 9, "PQ"):
            sayings = some_sayings(chance, 3)
            told = shorten(step, sayings)
            self.assertEqual([shape(other) for other in told], [shape(other) for other in self.plain_list(step,
                sayings)])
            longest = max(longest, len(told))
        self.assertGreaterEqual(longest, 3)

    def test_all_alike_and_each_lighter(self):
        chance = random.Random(403)
        shortened = 0
        for step in some_steps(404, 250, 24):
            if weight_of(step) > 40:
                continue
            sayings = some_sayings(chance, 4)
            before = [shape(saying) for saying in sayings]
            told = shorten(step, sayings)
            self.assertEqual([shape(saying) for saying in sayings], before)
            shortened += len(told) > 1
            for ahead, later in zip(told, told[1:]):
                self.assertLess(weight_of(later), weight_of(ahead))
                self.assertIn(shape(later), [shape(other) for other in shorter(ahead)])
                self.assertIs(type(judged(step, later, sayings)), Alike)
            for other in shorter(told[-1]):
                self.assertNotIsInstance(judged(told[-1], other, sayings), Alike)
        self.assertGreater(shortened, 100)

    def test_a_weight_of_forty(self):
        text = "while a { " + " ; ".join(["if b { P } else { Q }"] * 6) + " } ; skip"
        step = read_program(text)
        self.assertEqual(weight_of(step), 39)
        told = shorten(step, [])
        self.assertEqual(told[-1].text(), text[:-len(" ; skip")])
        loop = read_program("while yes { " + " ; ".join(["P"] * 12) + " } ; { skip ; skip }")
        self.assertEqual(weight_of(loop), 41)
        self.assertEqual(shorten(loop.head, [])[-1].text(), "while yes { P }")
        step = Row(loop.head, Stop())
        self.assertEqual(weight_of(step), 39)
        told = shorten(step, [])
        self.assertEqual(len(told), 13)
        self.assertEqual(told[-1].text(), "while yes { P }")

    def test_a_list_told_and_changed_changes_nothing(self):
        step = Row(Skip(), Row(P, Skip()))
        told = shorten(step, [])
        texts = [other.text() for other in told]
        told.clear()
        self.assertEqual([other.text() for other in shorten(step, [])], texts)

    def test_fields_of_what_is_told(self):
        for other in shorter(Choice(A, Row(P, Q), Loop(B, R))):
            self.assertIn(type(other), FIELDS)
            self.assertIsInstance(other, (Skip, Stop, Deed, Row, Choice, Loop))
