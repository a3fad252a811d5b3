"""[16]: programs run in worlds."""

import random
import unittest

from anymeaning.runs import run_from
from anymeaning.signs import No, Not, Yes
from anymeaning.steps import Choice, Loop, Row, Skip, Stop
from anymeaning.texts import read_program
from anymeaning.worlds import World, listed_world
from tests.helper import (
    A, B, DEEDS, P, Q, all_of, endless_world, interpreted, shape, some_steps, some_world, steps_by_size,
)

# At state k a holds where k is odd, b where k is 2, 3, 6, 7, ..; P goes on by one, Q by two, T back to 0.
COUNTING = World(
    lambda state: state % 16,
    lambda deed, state: {"P": state + 1, "Q": state + 2, "R": state, "S": state - 1, "T": 0}[deed],
)


class RunTest(unittest.TestCase):
    def check(self, rows):
        for text, state, most, told in rows:
            with self.subTest(text=text, state=state, most=most):
                answer = run_from(read_program(text), COUNTING, state, most)
                self.assertIs(type(answer), tuple)
                self.assertEqual(answer, told)
                self.assertIs(type(answer[2]), int)

    def test_done(self):
        self.check([
            ("skip", 5, 10, ("", "done", 5)),
            ("P", 5, 10, ("P", "done", 6)),
            ("P ; Q ; P", 0, 10, ("PQP", "done", 4)),
            ("while not a { P }", 4, 10, ("P", "done", 5)),
            ("while a { P }", 4, 10, ("", "done", 4)),
            ("while not d { P }", 0, 10, ("P" * 8, "done", 8)),
            ("while b { Q } ; T", 2, 10, ("QT", "done", 0)),
            ("if a { P } else { Q }", 1, 10, ("P", "done", 2)),
            ("if a { P } else { Q }", 2, 10, ("Q", "done", 4)),
        ])

    def test_stopped(self):
        self.check([
            ("stop", 5, 10, ("", "stopped", 5)),
            ("P ; stop ; Q", 5, 10, ("P", "stopped", 6)),
            ("while yes { P ; if c { stop } } ; Q", 0, 10, ("PPPP", "stopped", 4)),
            ("while a { stop }", 3, 10, ("", "stopped", 3)),
        ])

    def test_hung(self):
        self.check([
            ("while yes { skip }", 5, 10, ("", "hung", 5)),
            ("while a { skip }", 5, 10, ("", "hung", 5)),
            ("P ; while a { skip } ; Q", 4, 10, ("P", "hung", 5)),
            ("while yes { if not c { P } }", 0, 10, ("PPPP", "hung", 4)),
            ("while yes { while not a { P } }", 0, 10, ("P", "hung", 1)),
        ])

    def test_more(self):
        self.check([
            ("while yes { P }", 0, 5, ("PPPPP", "more", 5)),
            ("while yes { P ; T }", 0, 5, ("PTPTP", "more", 1)),
            ("P ; Q ; P", 0, 2, ("PQ", "more", 3)),
            ("while yes { R }", -7, 1, ("R", "more", -7)),
        ])

    def test_no_deeds_let(self):
        self.check([
            ("skip", 5, 0, ("", "done", 5)),
            ("stop", 5, 0, ("", "stopped", 5)),
            ("while yes { skip }", -5, 0, ("", "hung", -5)),
            ("P", 5, 0, ("", "more", 5)),
            ("if a { P }", 4, 0, ("", "done", 4)),
            ("if a { P }", 5, 0, ("", "more", 5)),
        ])

    def test_just_as_many_as_there_are(self):
        self.check([
            ("P", 5, 1, ("P", "done", 6)),
            ("P ; Q ; stop", 0, 2, ("PQ", "stopped", 3)),
            ("P ; Q ; P", 0, 3, ("PQP", "done", 4)),
            ("P ; while yes { skip }", 0, 1, ("P", "hung", 1)),
            ("while not d { P }", 0, 8, ("P" * 8, "done", 8)),
            ("while not d { P }", 0, 7, ("P" * 7, "more", 7)),
            ("while not d { P }", 0, 9, ("P" * 8, "done", 8)),
        ])

    def test_states_of_any_size(self):
        far = 16 * 10 ** 40
        self.check([
            ("while not d { P }", far, 20, ("P" * 8, "done", far + 8)),
            ("S ; S", -far, 20, ("SS", "done", -far - 2)),
        ])

    def test_three_thousand_deeds(self):
        counting = World(lambda state: 1 if state < 3000 else 0, lambda deed, state: state + 1)
        loop = read_program("while a { P ; if a { Q } }")
        self.assertEqual(run_from(loop, counting, 0, 3000), ("PQ" * 1500, "done", 3000))
        self.assertEqual(run_from(loop, counting, 0, 2999), ("PQ" * 1499 + "P", "more", 2999))
        self.assertEqual(run_from(loop, counting, -1, 3000), ("PQ" * 1500, "more", 2999))
        endless = read_program("while yes { while b { Q } ; P ; if c { R } }")
        self.assertEqual(run_from(endless, COUNTING, 0, 3000), interpreted(endless, COUNTING, 0, 3000))

    def test_three_thousand_deeds_of_deep_programs(self):
        step = P
        for depth in range(119):
            step = Loop(Yes() if depth % 2 == 0 else Not(No()), step)
        self.assertEqual(run_from(step, COUNTING, 0, 3000), ("P" * 3000, "more", 3000))

    def test_what_the_world_is_asked(self):
        asked = []
        world = World(lambda state: 0, lambda deed, state: asked.append((deed, state)) or state + 1)
        self.assertEqual(run_from(read_program("P ; Q ; R"), world, 7, 2), ("PQ", "more", 9))
        self.assertEqual(asked, [("P", 7), ("Q", 8)])

    def test_what_is_left_runs_on(self):
        for step in some_steps(161, 100, 14):
            for state in range(8):
                deeds, end, behind = run_from(step, COUNTING, state, 30)
                left, now = step, state
                for deed in deeds[:10]:
                    what, left = left.first(COUNTING.setting(now))
                    self.assertEqual(what, deed)
                    now = COUNTING.led(deed, now)
                self.assertEqual(run_from(left, COUNTING, now, 30 - len(deeds[:10])), (deeds[10:], end, behind))


class ManyRunsTest(unittest.TestCase):
    def test_small_programs_against_an_interpreter(self):
        world = listed_world([0, 1, 2, 3, 1], {
            "P": [1, 2, 3, 4, 0], "Q": [4, 3, 2, 1, 0], "R": [0] * 5, "S": [1] * 5, "T": [2] * 5,
        })
        for step in all_of(steps_by_size([Skip(), Stop(), P, Q], [A, B], 5)):
            for state in range(5):
                for most in (0, 1, 2, 9):
                    expected = interpreted(step, world, state, most)
                    self.assertEqual(run_from(step, world, state, most), expected, (step.text(), state, most))

    def test_many_programs_against_an_interpreter(self):
        chance = random.Random(162)
        ends = {"done": 0, "stopped": 0, "hung": 0, "more": 0}
        for step in some_steps(163, 600, 60):
            before = shape(step)
            for world in (some_world(chance, 1), some_world(chance, 7), some_world(chance, 40)):
                for most in (0, 1, 5, 60):
                    told = run_from(step, world, 0, most)
                    self.assertEqual(told, interpreted(step, world, 0, most), (step.text(), most))
                    ends[told[1]] += 1
            world = endless_world()
            for state in (-12, 0, 5, 31):
                self.assertEqual(run_from(step, world, state, 50), interpreted(step, world, state, 50), step.text())
            self.assertEqual(shape(step), before)
        self.assertTrue(all(number > 100 for number in ends.values()), ends)

    def test_one_program_in_several_places(self):
        loop = Loop(A, P)
        step = Row(Row(loop, Q), Choice(B, loop, Row(loop, loop)))
        for state in range(16):
            self.assertEqual(run_from(step, COUNTING, state, 9), interpreted(step, COUNTING, state, 9))

    def test_a_deed_of_each_letter(self):
        for deed in DEEDS:
            told = run_from(read_program(deed), COUNTING, 8, 1)
            self.assertEqual(told, (deed, "done", COUNTING.led(deed, 8)))
