"""[17], [18], [19]: rooms, what is left in them, their doors, and runs by them."""

import random
import unittest

from anymeaning.rooms import Rooms
from anymeaning.runs import run_from
from anymeaning.signs import No, Yes
from anymeaning.steps import Choice, Deed, Loop, Row, Skip, Stop
from anymeaning.texts import read_program
from tests.helper import (
    A, B, C, D, FIELDS, P, Q, R, S, SETTINGS, T, all_of, endless_world, shape, some_steps, some_world, steps_by_size,
)


def numbered(step):
    """The program with each deed's name followed by its number, so that each deed has a name of its own.

    By what such a program does first one sees which deed of several with one letter it is.
    """
    count = [0]

    def copied(part):
        if isinstance(part, Deed):
            count[0] += 1
            return Deed(part.name + str(count[0]))
        if isinstance(part, Row):
            head = copied(part.head)
            return Row(head, copied(part.tail))
        if isinstance(part, Choice):
            yes = copied(part.yes)
            return Choice(part.test, yes, copied(part.no))
        if isinstance(part, Loop):
            return Loop(part.test, copied(part.body))
        return part

    return copied(step)


def rests(step):
    """What is left behind each deed, by [17]: one deed's place at a time, as paths of fields."""
    return [rest_behind(step, path) for path in deed_paths(step)]


def deed_paths(step):
    if isinstance(step, Deed):
        return [()]
    own = [field for field in FIELDS[type(step)] if field in ("head", "tail", "yes", "no", "body")]
    return [(field,) + path for field in own for path in deed_paths(getattr(step, field))]


def rest_behind(step, path):
    if not path:
        return Skip()
    left = rest_behind(getattr(step, path[0]), path[1:])
    if path[0] == "head":
        return Row(left, step.tail)
    if path[0] == "body":
        return Row(left, step)
    return left


def expected_doors(step):
    """The doors of all rooms by what is left there, told by `first` of the numbered program."""
    named = numbered(step)
    doors = []
    for left in [named] + rests(named):
        told = [left.first(setting)[0] for setting in SETTINGS]
        doors.append([(what, 0) if what[0] not in "PQRST" else (what[0], int(what[1:])) for what in told])
    return doors


class RestTest(unittest.TestCase):
    def check(self, rows):
        for text, told in rows:
            with self.subTest(text=text):
                step = read_program(text)
                rooms = Rooms(step)
                self.assertIs(rooms.rest_of(0), step)
                self.assertEqual([rooms.rest_of(k).text() for k in range(1, len(told) + 1)], told)
                self.assertEqual(len(rooms.doors), len(told) + 1)

    def test_single_programs(self):
        self.check([("skip", []), ("stop", []), ("P", ["skip"]), ("T", ["skip"])])

    def test_rows(self):
        self.check([
            ("P ; Q", ["skip ; Q", "skip"]),
            ("P ; Q ; R", ["skip ; Q ; R", "skip ; R", "skip"]),
            ("P ; { Q ; R }", ["skip ; { Q ; R }", "skip ; R", "skip"]),
            ("skip ; P", ["skip"]),
            ("P ; skip", ["skip ; skip"]),
            ("P ; stop ; Q", ["skip ; stop ; Q", "skip"]),
            ("stop ; P ; Q", ["skip ; Q", "skip"]),
        ])

    def test_choices(self):
        self.check([
            ("if a { P } else { Q }", ["skip", "skip"]),
            ("if a { P ; Q } else { R }", ["skip ; Q", "skip", "skip"]),
            ("if a { P } else { Q } ; R", ["skip ; R", "skip ; R", "skip"]),
            ("P ; if no { Q ; R }", ["skip ; if no { Q ; R }", "skip ; R", "skip"]),
        ])

    def test_loops(self):
        self.check([
            ("while a { P }", ["skip ; while a { P }"]),
            ("while no { P ; Q }", ["skip ; Q ; while no { P ; Q }", "skip ; while no { P ; Q }"]),
            ("while a { while b { P } }", ["skip ; while b { P } ; while a { while b { P } }"]),
            ("while a { P } ; Q", ["skip ; while a { P } ; Q", "skip"]),
            ("while a { P ; if b { Q } }", [
                "skip ; if b { Q } ; while a { P ; if b { Q } }", "skip ; while a { P ; if b { Q } }",
            ]),
        ])

    def test_told_just_so(self):
        loop = Loop(A, Row(P, Choice(B, Q, Row(R, Skip()))))
        step = Row(Row(loop, Stop()), S)
        rooms = Rooms(step)
        for room, left in (
            (1, Row(Row(Row(Row(Skip(), loop.body.tail), loop), Stop()), S)),
            (2, Row(Row(Row(Skip(), loop), Stop()), S)),
            (3, Row(Row(Row(Row(Skip(), Skip()), loop), Stop()), S)),
            (4, Skip()),
        ):
            self.assertEqual(shape(rooms.rest_of(room)), shape(left))

    def test_many_programs(self):
        for step in some_steps(171, 300, 40) + all_of(steps_by_size([Skip(), Stop(), P, Q], [A, B], 4)):
            rooms = Rooms(step)
            told = [shape(rooms.rest_of(room)) for room in range(len(rooms.doors))]
            self.assertEqual(told, [shape(step)] + [shape(left) for left in rests(step)])


class DoorsTest(unittest.TestCase):
    def test_the_documents_example(self):
        rooms = Rooms(read_program("while a { P ; if b { Q } }"))
        self.assertEqual(len(rooms.doors), 3)
        for setting in SETTINGS:
            told = [doors[setting] for doors in rooms.doors]
            if setting & 3 == 3:
                self.assertEqual(told, [("P", 1), ("Q", 2), ("P", 1)])
            elif setting & 3 == 2:
                self.assertEqual(told, [("done", 0), ("Q", 2), ("done", 0)])
            elif setting & 3 == 1:
                self.assertEqual(told, [("P", 1), ("P", 1), ("P", 1)])
            else:
                self.assertEqual(told, [("done", 0), ("done", 0), ("done", 0)])

    def check(self, rows):
        """The doors of each room, the same at all settings."""
        for step, told in rows:
            with self.subTest(step=step.text()):
                self.assertEqual(Rooms(step).doors, [[door] * 16 for door in told])

    def test_the_same_at_all_settings(self):
        done, stopped, hung = ("done", 0), ("stopped", 0), ("hung", 0)
        self.check([
            (Skip(), [done]),
            (Stop(), [stopped]),
            (P, [("P", 1), done]),
            (Row(P, P), [("P", 1), ("P", 2), done]),
            (Row(P, Stop()), [("P", 1), stopped]),
            (Row(Stop(), P), [stopped, done]),
            (Row(Skip(), P), [("P", 1), done]),
            (Row(P, Row(Stop(), Q)), [("P", 1), stopped, done]),
            (Row(Loop(Yes(), Skip()), P), [hung, done]),
            (Row(P, Loop(Yes(), Skip())), [("P", 1), hung]),
            (Choice(Yes(), P, Q), [("P", 1), done, done]),
            (Choice(No(), P, Q), [("Q", 2), done, done]),
            (Row(Choice(No(), P, Q), R), [("Q", 2), ("R", 3), ("R", 3), done]),
            (Loop(Yes(), P), [("P", 1), ("P", 1)]),
            (Loop(No(), P), [done, done]),
            (Loop(Yes(), Row(P, Q)), [("P", 1), ("Q", 2), ("P", 1)]),
            (Loop(No(), Row(P, Q)), [done, ("Q", 2), done]),
            (Loop(Yes(), Stop()), [stopped]),
            (Loop(Yes(), Loop(No(), P)), [hung, hung]),
            (Loop(Yes(), Loop(Yes(), P)), [("P", 1), ("P", 1)]),
            (Row(Loop(No(), P), T), [("T", 2), ("T", 2), done]),
        ])

    def test_kinds(self):
        rooms = Rooms(read_program("while a { P ; if b { Q } else { stop } } ; while c { skip }"))
        self.assertIs(type(rooms.doors), list)
        for doors in rooms.doors:
            self.assertIs(type(doors), list)
            self.assertEqual(len(doors), 16)
            for door in doors:
                self.assertIs(type(door), tuple)
                self.assertIs(type(door[0]), str)
                self.assertIs(type(door[1]), int)

    def test_each_kind_in_each_place_of_another(self):
        kinds = [
            Skip(), Stop(), P, Q, Row(P, Q), Row(Stop(), P), Row(P, Stop()), Choice(A, P, Q), Choice(B, P, Skip()),
            Choice(B, Skip(), Stop()), Choice(No(), P, Q), Loop(A, P), Loop(B, Skip()), Loop(No(), P),
            Loop(A, Choice(B, P, Skip())), Loop(B, Loop(A, P)),
        ]
        for one in kinds:
            for two in kinds:
                for step in (
                    Row(one, two), Choice(A, one, two), Choice(C, one, two), Loop(A, Row(one, two)),
                    Loop(D, Choice(B, one, two)), Row(Loop(C, one), two), Row(one, Loop(Yes(), two)),
                    Choice(D, Loop(B, one), Loop(A, two)), Loop(B, Loop(Yes(), Row(one, two))),
                ):
                    self.assertEqual(Rooms(step).doors, expected_doors(step), step.text())

    def test_small_programs(self):
        for step in all_of(steps_by_size([Skip(), Stop(), P], [A, B], 5)):
            self.assertEqual(Rooms(step).doors, expected_doors(step), step.text())

    def test_many_programs(self):
        for step in some_steps(181, 400, 100):
            self.assertEqual(Rooms(step).doors, expected_doors(step), step.text())

    def test_one_program_in_several_places(self):
        row = Row(P, Choice(A, P, Skip()))
        for step in (
            Row(row, row), Choice(B, row, row), Loop(B, Row(row, row)), Row(Row(row, row), Row(row, Loop(A, row))),
            Row(P, P), Row(Row(P, P), Row(P, P)), Choice(A, Loop(B, P), Loop(B, P)),
        ):
            before = shape(step)
            self.assertEqual(Rooms(step).doors, expected_doors(step), step.text())
            self.assertEqual(shape(step), before)

    def test_largest_programs(self):
        deep = P
        for depth in range(119):
            deep = Loop(A if depth % 2 == 0 else B, deep)
        left = right = P
        for _ in range(11):
            left, right = Row(left, Q), Row(Q, right)
        skips = Row(P, Skip())
        for _ in range(58):
            skips = Row(skips, Skip())
        for step in (deep, left, right, skips, Loop(A, Row(left, Skip()))):
            self.assertEqual(Rooms(step).doors, expected_doors(step))

    def test_each_room_has_a_list_of_its_own(self):
        for step in some_steps(182, 50, 20):
            doors = Rooms(step).doors
            self.assertEqual(len({id(row) for row in doors}), len(doors))
            again = Rooms(step)
            doors[0][0] = ("done", 99)
            doors.clear()
            self.assertEqual(again.doors, expected_doors(step))
            self.assertEqual(Rooms(step).doors, expected_doors(step))

    def test_field_step(self):
        step = Loop(A, P)
        self.assertIs(Rooms(step).step, step)
        self.assertIs(Rooms(step=step).step, step)


class RunTest(unittest.TestCase):
    def test_small_programs_run_as_told(self):
        chance = random.Random(191)
        worlds = [some_world(chance, states) for states in (1, 2, 5, 9)]
        for step in all_of(steps_by_size([Skip(), Stop(), P, Q], [A, B], 4)):
            rooms = Rooms(step)
            for world in worlds:
                for most in (0, 1, 2, 12):
                    self.assertEqual(rooms.run(world, 0, most), run_from(step, world, 0, most), step.text())

    def test_many_programs_run_as_told(self):
        chance = random.Random(192)
        for step in some_steps(193, 300, 90):
            rooms = Rooms(step)
            for states in (1, 4, 30):
                world = some_world(chance, states)
                for most in (0, 1, 3, 100):
                    state = chance.randrange(states)
                    told = rooms.run(world, state, most)
                    self.assertIs(type(told), tuple)
                    self.assertEqual(told, run_from(step, world, state, most), step.text())
            world = endless_world()
            for state in (-30, 0, 17):
                self.assertEqual(rooms.run(world, state, 40), run_from(step, world, state, 40), step.text())

    def test_three_thousand_deeds(self):
        chance = random.Random(194)
        world = some_world(chance, 3000)
        for text in ("while yes { P ; if b { Q } ; while c { R } }", "while yes { if a { P } else { S ; T } }"):
            step = read_program(text)
            told = Rooms(step).run(world, 1234, 3000)
            self.assertEqual(len(told[0]), 3000)
            self.assertEqual(told, run_from(step, world, 1234, 3000))
