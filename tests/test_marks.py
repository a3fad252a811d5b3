"""[2], [32] to [36]: what holds behind a program."""

import random
import unittest

from anymeaning.bonds import is_kept
from anymeaning.marks import Broken, Finding, Kept, marked
from anymeaning.rooms import Rooms
from anymeaning.runs import run_from
from anymeaning.sayings import Nowhere
from anymeaning.signs import Both, No, Not, Yes
from anymeaning.signwords import read_test
from anymeaning.steps import Deed, Loop, Row, Skip, Stop
from anymeaning.texts import read_program
from anymeaning.words import world_of
from anymeaning.worlds import listed_world
from tests.helper import (
    A, B, DEEDS, P, Q, SETTINGS, all_of, is_deed, mask_of, plain_good, plain_later, sayings_of, shape, some_sayings,
    some_step, some_steps, some_test, steps_by_size,
)

EVERY = 65535


class PlainMarks:
    """A program between two tests under sayings, by sets of rooms with settings."""

    def __init__(self, before, step, after, sayings):
        self.doors = Rooms(step).doors
        self.good = plain_good(sayings)
        self.begin = {(0, setting) for setting in self.good if before.holds(setting)}
        self.after = after
        self.ways = {
            (deed, setting): plain_later(sayings, self.good, deed, setting) for deed in DEEDS for setting in SETTINGS
        }

    def breaks(self, pair):
        return self.doors[pair[0]][pair[1]][0] == "done" and not self.after.holds(pair[1])

    def next_pairs(self, pair):
        door = self.doors[pair[0]][pair[1]]
        if not is_deed(door):
            return set()
        return {(door[1], later) for later in self.ways[(door[0], pair[1])]}

    def layers(self):
        layer = self.begin
        seen = set()
        found = []
        while layer:
            found.append(layer)
            seen |= layer
            layer = {later for pair in layer for later in self.next_pairs(pair)} - seen
        return found

    def shortest(self):
        for number, layer in enumerate(self.layers()):
            if any(self.breaks(pair) for pair in layer):
                return number
        return None

    def marks(self):
        reached = [pair for layer in self.layers() for pair in layer]
        return [mask_of(s for room, s in reached if room == number) for number in range(len(self.doors))]

    def are_closed(self, marks):
        if len(marks) != len(self.doors) or any(mask not in range(65536) for mask in marks):
            return False
        pairs = {(room, s) for room, mask in enumerate(marks) for s in self.good if mask >> s & 1}
        return self.begin <= pairs and all(
            self.next_pairs(pair) <= pairs and not self.breaks(pair) for pair in pairs
        )

    def is_word(self, settings, deeds):
        if len(settings) != len(deeds) + 1 or (0, settings[0]) not in self.begin:
            return False
        pair = (0, settings[0])
        for deed, setting in zip(deeds, settings[1:]):
            door = self.doors[pair[0]][pair[1]]
            if door[0] != deed or (door[1], setting) not in self.next_pairs(pair):
                return False
            pair = (door[1], setting)
        return self.breaks(pair)


def some_cases(seed, number, most_parts):
    """Tests, programs and sayings, the same ones each time."""
    chance = random.Random(seed)
    found = []
    while len(found) < number:
        step = some_step(chance, chance.randint(1, most_parts), "PQ")
        if len(step.letters()) <= 12:
            before = some_test(chance, chance.randint(1, 4))
            after = some_test(chance, chance.randint(1, 3))
            if chance.random() < 0.3 and isinstance(step, Loop):
                after = Not(step.test)
            found.append((before, step, after, some_sayings(chance, 5)))
    return found


class KindsTest(unittest.TestCase):
    def test_kinds(self):
        for kind in (Kept, Broken):
            self.assertTrue(issubclass(kind, Finding))
            self.assertIsNot(kind, Finding)
        self.assertFalse(issubclass(Kept, Broken))
        self.assertFalse(issubclass(Broken, Kept))

    def test_fields(self):
        self.assertEqual(Kept([1, 2]).marks, [1, 2])
        self.assertEqual(Kept(marks=[]).marks, [])
        broken = Broken([1, 2], "P")
        self.assertEqual((broken.settings, broken.deeds), ([1, 2], "P"))
        broken = Broken(deeds="", settings=[3])
        self.assertEqual((broken.settings, broken.deeds), ([3], ""))


class MarkedTest(unittest.TestCase):
    def kept(self, before, text, after, sayings, marks):
        with self.subTest(before=before, text=text, after=after):
            told = marked(read_test(before), read_program(text), read_test(after), sayings_of(*sayings))
            self.assertIs(type(told), Kept)
            self.assertEqual(told.marks, marks)
            self.assertIs(type(told.marks), list)
            self.assertTrue(all(type(mask) is int for mask in told.marks))

    def broken(self, before, text, after, sayings, letters):
        with self.subTest(before=before, text=text, after=after):
            told = marked(read_test(before), read_program(text), read_test(after), sayings_of(*sayings))
            self.assertIs(type(told), Broken)
            self.assertIs(type(told.settings), list)
            self.assertIs(type(told.deeds), str)
            self.assertEqual(len(told.settings), len(told.deeds) + 1)
            self.assertEqual(len(told.deeds), letters)

    def test_kept(self):
        self.kept("a", "skip", "a", [], [43690])
        self.kept("no", "P", "no", [], [0, 0])
        self.kept("yes", "P", "yes", [], [EVERY, EVERY])
        self.kept("yes", "stop", "no", [], [EVERY])
        self.kept("yes", "P ; stop", "no", [], [EVERY, EVERY])
        self.kept("yes", "while yes { skip }", "no", [], [EVERY])
        self.kept("yes", "while yes { P }", "no", [], [EVERY, EVERY])
        self.kept("yes", "while a { P }", "not a", [], [EVERY, EVERY])
        self.kept("a", "while a { P ; Q }", "not a", [], [43690, EVERY, EVERY])
        self.kept("yes", "if a { skip } else { stop }", "a", [], [EVERY])
        self.kept("a and b", "if a { skip } else { P }", "b", [], [34952, 0])
        self.kept("yes", "P ; if not b { stop }", "b", [], [EVERY, EVERY])

    def test_kept_under_sayings(self):
        self.kept("a", "P", "b", ["behind P : a : b"], [43690, 52428])
        self.kept("a", "P ; Q", "c", ["behind P : a : b", "behind Q : b : c"], [43690, 52428, 61680])
        self.kept("a", "P ; P ; P", "a", ["through P : a"], [43690] * 4)
        self.kept("yes", "P", "not a", ["nowhere a"], [21845, 21845])
        self.kept("yes", "skip", "no", ["nowhere yes"], [0])
        self.kept("yes", "P ; Q", "no", ["behind T : yes : no"], [0, 0, 0])
        self.kept("a", "while b { P }", "a and not b", ["through P : a"], [43690, 43690])
        # Where b holds no deed T may come, so no world has b.
        self.kept("yes", "P", "not b", ["behind T : b : no"], [13107, 13107])

    def test_broken(self):
        self.broken("a", "skip", "b", [], 0)
        self.broken("yes", "skip", "no", [], 0)
        self.broken("a", "P", "a", [], 1)
        self.broken("yes", "P ; Q ; R", "a", [], 3)
        self.broken("a", "while a { P }", "b", [], 1)
        self.broken("not a", "while a { P }", "b", [], 0)
        self.broken("yes", "if a { P ; Q } else { R }", "c", [], 1)
        self.broken("a", "P", "a", ["behind P : not a : a"], 1)
        self.broken("a", "P ; P", "c", ["behind P : a : b", "behind Q : b : c"], 2)
        self.broken("yes", "while not b { P }", "a", ["nowhere c or d"], 0)

    def test_a_long_shortest_word(self):
        # Each P takes one letter more, from none up to all four; the program is done at all four alone.
        sayings = sayings_of(
            "behind P : not a : a and not b and not c and not d",
            "behind P : a and not b : a and b and not c and not d",
            "behind P : b and not c : a and b and c and not d", "behind P : c and not d : a and b and c and d",
        )
        step = read_program("while not ( a and b and c and d ) { P }")
        told = marked(read_test("not ( a or b or c or d )"), step, No(), sayings)
        self.assertEqual((told.settings, told.deeds), ([0, 1, 3, 7, 15], "PPPP"))

    def test_what_is_handed_in_is_not_changed_and_each_answer_is_new(self):
        sayings = sayings_of("through P : a", "nowhere b")
        step = Row(Loop(A, P), Q)
        before = (shape(step), [shape(saying) for saying in sayings])
        first = marked(A, step, Yes(), sayings)
        marks = list(first.marks)
        first.marks.clear()
        self.assertEqual(marked(A, step, Yes(), sayings).marks, marks)
        word = marked(Not(A), step, No(), sayings)
        settings = list(word.settings)
        word.settings.append(99)
        self.assertEqual(marked(Not(A), step, No(), sayings).settings, settings)
        self.assertEqual((shape(step), [shape(saying) for saying in sayings]), before)

    def test_arguments_by_name(self):
        told = marked(sayings=[], after=B, step=Skip(), before=Both(A, B))
        self.assertEqual(told.marks, [34952])
        self.assertIs(told.stands(sayings=[], after=B, step=Skip(), before=Both(A, B)), True)


class SearchTest(unittest.TestCase):
    def check(self, before, step, after, sayings):
        plain = PlainMarks(before, step, after, sayings)
        told = marked(before, step, after, sayings)
        about = (before.text(), step.text(), after.text(), [saying.text() for saying in sayings])
        shortest = plain.shortest()
        if shortest is None:
            self.assertIs(type(told), Kept, about)
            self.assertEqual(told.marks, plain.marks(), about)
            self.assertTrue(plain.are_closed(told.marks), about)
        else:
            self.assertIs(type(told), Broken, about)
            self.assertEqual(len(told.deeds), shortest, about)
            self.assertTrue(plain.is_word(told.settings, told.deeds), about)
        self.assertIs(told.stands(before, step, after, sayings), True, about)
        return type(told)

    def test_small_programs(self):
        for step in all_of(steps_by_size([Skip(), Stop(), P], [A, B], 4)):
            for before, after in ((A, A), (Yes(), Not(A)), (B, Both(A, B))):
                for sayings in ([], sayings_of("through P : a", "behind P : b : b")):
                    self.check(before, step, after, sayings)

    def test_many_programs(self):
        told = {Kept: 0, Broken: 0}
        for case in some_cases(351, 1200, 14):
            told[self.check(*case)] += 1
        self.assertGreater(min(told.values()), 200)

    def test_largest_programs(self):
        for step in some_steps(352, 25, 120):
            self.check(A, step, B, sayings_of("through P : a", "behind Q : a : b"))

    def test_as_few_settings_as_can_be(self):
        """No closed marks lack a setting that is told: all that are within them are gone through."""
        chance = random.Random(353)
        checked = 0
        for before, step, after, sayings in some_cases(354, 300, 5):
            sayings = sayings + [Nowhere(Not(read_test("not c and not d")))]
            told = marked(before, step, after, sayings)
            if isinstance(told, Broken):
                continue
            settings = [(room, s) for room, mask in enumerate(told.marks) for s in SETTINGS if mask >> s & 1]
            if not 0 < len(settings) <= 9:
                continue
            checked += 1
            for number in range(2 ** len(settings) - 1):
                marks = [0] * len(told.marks)
                for place, (room, setting) in enumerate(settings):
                    if number >> place & 1:
                        marks[room] |= 1 << setting
                # One setting at least lacks, so it isn't closed; and settings that are not good don't help.
                marks = [mask | chance.choice([0, 16, 4096]) for mask in marks]
                self.assertIs(Kept(marks).stands(before, step, after, sayings), False)
        self.assertGreater(checked, 30)


class StandsTest(unittest.TestCase):
    STEP = read_program("while a { P }")

    def marks(self, marks, told, before="yes", after="not a", sayings=()):
        with self.subTest(marks=marks):
            finding = Kept(marks)
            self.assertIs(finding.stands(read_test(before), self.STEP, read_test(after), list(sayings)), told)

    def test_marks(self):
        self.marks([EVERY, EVERY], True)
        self.marks([EVERY, EVERY], False, after="b")
        self.marks([43690, EVERY], True, before="a")
        self.marks([43690, EVERY], False)
        self.marks([43690 + 1, EVERY], True, before="a")
        self.marks([0, 0], True, before="no")
        self.marks([0, EVERY], True, before="no")
        self.marks([0, 1], True, before="no")
        self.marks([0, 2], False, before="no")
        self.marks([1, 0], True, before="no")
        self.marks([1, 0], False, before="no", after="a")
        self.marks([2, 0], False, before="no")

    def test_a_setting_fewer(self):
        for room in (0, 1):
            for setting in range(16):
                marks = [EVERY, EVERY]
                marks[room] -= 1 << setting
                self.marks(marks, False)

    def test_a_room_more_or_fewer(self):
        for marks in ([], [EVERY], [EVERY, EVERY, EVERY], [EVERY, EVERY, 0], [0], [EVERY] * 13):
            self.marks(marks, False)
            self.marks(marks, False, before="no")

    def test_numbers_beyond(self):
        for wrong in (-1, 65536, -65536, 131071, 10 ** 20, -(10 ** 20)):
            self.marks([EVERY, wrong], False)
            self.marks([wrong, EVERY], False)
            self.marks([0, wrong], False, before="no")
            self.marks([0, wrong], False, before="no", sayings=sayings_of("nowhere yes"))

    def test_settings_that_are_not_good(self):
        sayings = sayings_of("nowhere b", "behind T : c : no")
        good = mask_of([0, 1, 8, 9])
        told = marked(Yes(), self.STEP, Not(A), sayings)
        self.assertEqual(told.marks, [good, good])
        for more in (0, EVERY - good, 4, 1 << 4):
            self.marks([good + more, good], True, sayings=sayings)
            self.marks([good, good + more], True, sayings=sayings)
        self.marks([EVERY, EVERY], True, sayings=sayings)
        self.marks([good - 1, good], False, sayings=sayings)
        self.marks([EVERY - good, EVERY], False, sayings=sayings)
        # Where b holds the program would be done and after would not hold; but b holds in no world.
        step = read_program("if b { skip } else { stop }")
        self.assertIs(Kept([EVERY]).stands(Yes(), step, No(), sayings), True)
        self.assertIs(Kept([EVERY]).stands(Yes(), step, No(), []), False)

    def test_no_setting_good(self):
        for sayings in (sayings_of("nowhere yes"), sayings_of("behind P : yes : no")):
            self.marks([0, 0], True, after="no", sayings=sayings)
            self.marks([EVERY, 5], True, after="no", sayings=sayings)
            self.marks([0], False, after="no", sayings=sayings)
            self.assertIs(Broken([0], "").stands(Yes(), Skip(), No(), sayings), False)

    def test_words(self):
        step = read_program("P ; Q ; if b { stop }")
        for settings, deeds, told in (
            ([1, 0, 0], "PQ", True), ([15, 15, 13], "PQ", False), ([15, 15, 12], "PQ", True), ([1, 0, 1], "PQ", False),
            ([0, 0, 0], "PQ", False), ([1, 0, 2], "PQ", False), ([1, 0], "PQ", False), ([1, 0, 0, 0], "PQ", False),
            ([1, 0], "P", False), ([1], "", False), ([], "", False), ([], "P", False), ([1, 0, 0], "P", False),
            ([1, 0, 0], "QP", False), ([1, 0, 0], "PP", False), ([1, 0, 0], "PR", False), ([1, 0, 0], "P ", False),
            ([1, 0, 0], "pq", False), ([1, 0, 0, 0], "PQR", False), ([1, 0, 16], "PQ", False),
            ([1, 0, -2], "PQ", False), ([17, 0, 0], "PQ", False), ([-1, 0, 0], "PQ", False), ([1, 10 ** 20, 0],
            "PQ", False),
            ([1, -1, 0], "PQ", False), ([1, 0, 0], "P\n", False), ([1, 0, 0], "PQPQ", False), ([1], "PQ", False),
            ([1, 0, -16], "PQ", False), ([10 ** 20, 0, 0], "PQ", False),
        ):
            with self.subTest(settings=settings, deeds=deeds):
                self.assertIs(Broken(settings, deeds).stands(A, step, A, []), told)

    def test_runs_that_do_not_end_as_done_break_nothing(self):
        for text in ("stop", "while yes { skip }", "while yes { P }", "P ; stop"):
            step = read_program(text)
            for settings, deeds in (([0], ""), ([0, 0], "P"), ([0, 0, 0], "PP")):
                self.assertIs(Broken(settings, deeds).stands(Yes(), step, No(), []), False)

    def test_words_longer_than_the_shortest(self):
        step = read_program("while a { P }")
        for letters in range(0, 60):
            self.assertIs(Broken([1] * letters + [2], "P" * letters).stands(Yes(), step, Not(B), []), True)
            self.assertIs(Broken([1] * letters + [0], "P" * letters).stands(Yes(), step, Not(B), []), False)
            self.assertIs(Broken([1] * letters + [3], "P" * letters).stands(Yes(), step, Not(B), []), False)
        self.assertIs(Broken([1] * 5000 + [2], "P" * 5000).stands(Yes(), step, Not(B), []), True)

    def test_words_under_sayings(self):
        sayings = sayings_of("behind P : not c : not b", "nowhere d", "behind T : a and b : no")
        step = read_program("while a { P }")
        for settings, deeds, told in (
            ([5, 2], "P", True), ([5, 6], "P", True), ([1, 2], "P", False), ([5, 10], "P", False), ([5, 7], "P", False),
            ([1, 5, 2], "PP", True), ([13, 2], "P", False), ([7, 2], "P", False), ([2], "", True), ([10], "", False),
        ):
            with self.subTest(settings=settings):
                self.assertIs(Broken(settings, deeds).stands(Yes(), step, Not(B), sayings), told)

    def test_the_base_class_does_not_stand(self):
        self.assertIs(Finding().stands(Yes(), Skip(), Yes(), []), False)
        self.assertIs(Finding().stands(Yes(), Skip(), No(), []), False)
        self.assertIs(Finding().stands(Yes(), Skip(), No(), [Nowhere(Yes())]), False)

    def test_lists_handed_in_changed_later(self):
        marks = [EVERY, EVERY]
        kept = Kept(marks)
        marks.append(7)
        marks[0] = 0
        self.assertEqual(kept.marks, [EVERY, EVERY])
        self.assertIs(kept.stands(Yes(), self.STEP, Not(A), []), True)
        settings = [1, 2]
        broken = Broken(settings, "P")
        settings.clear()
        self.assertEqual(broken.settings, [1, 2])
        self.assertIs(broken.stands(Yes(), self.STEP, Not(B), []), True)


class ChangedTest(unittest.TestCase):
    """Answers told and then changed by chance, held against [33], [34] and [36] word by word."""

    def test_marks(self):
        chance = random.Random(361)
        counts = {True: 0, False: 0}
        for before, step, after, sayings in some_cases(362, 600, 10):
            plain = PlainMarks(before, step, after, sayings)
            for _ in range(6):
                marks = plain.marks()
                for _ in range(chance.randint(0, 2)):
                    room = chance.randrange(len(marks)) if marks else 0
                    turn = chance.randrange(9)
                    if turn < 4 and marks:
                        marks[room] |= 1 << chance.randrange(16)
                    elif turn < 6 and marks:
                        marks[room] &= ~(1 << chance.randrange(16))
                    elif turn == 6 and marks:
                        marks[room] = chance.choice([-1, 65536, 65535, 0])
                    elif turn == 7:
                        marks.insert(room, 0)
                    elif marks:
                        marks.pop(room)
                told = Kept(marks).stands(before, step, after, sayings)
                self.assertIs(told, plain.are_closed(marks), (before.text(), step.text(), after.text(), marks))
                counts[told] += 1
        self.assertGreater(min(counts.values()), 300)

    def test_words(self):
        chance = random.Random(363)
        counts = {True: 0, False: 0}
        for before, step, after, sayings in some_cases(364, 900, 10):
            told = marked(before, step, after, sayings)
            plain = PlainMarks(before, step, after, sayings)
            for _ in range(6):
                settings, deeds = ([chance.randrange(16) for _ in range(2)], "P")
                if isinstance(told, Broken):
                    settings, deeds = (list(told.settings), told.deeds)
                for _ in range(chance.randint(0, 2)):
                    place = chance.randrange(len(settings)) if settings else 0
                    turn = chance.randrange(4)
                    if turn == 0 and settings:
                        settings[place] = chance.randint(-1, 16)
                    elif turn == 1:
                        settings.insert(place, chance.randrange(16))
                        deeds = deeds[:place] + chance.choice("PQR") + deeds[place:]
                    elif turn == 2 and settings:
                        settings.pop(place)
                    else:
                        deeds = deeds[:place] + chance.choice(["P", "Q", "x", ""])
                stood = Broken(settings, deeds).stands(before, step, after, sayings)
                self.assertIs(stood, plain.is_word(settings, deeds), (step.text(), settings, deeds))
                counts[stood] += 1
        self.assertGreater(min(counts.values()), 300)


class RunsTest(unittest.TestCase):
    """What runs in worlds tell of what is told."""

    def test_kept(self):
        chance = random.Random(371)
        done = 0
        for before, step, after, sayings in some_cases(372, 500, 12):
            good = sorted(plain_good(sayings))
            if not good or isinstance(marked(before, step, after, sayings), Broken):
                continue
            for _ in range(3):
                world = listed_world(good, {deed: [
                    good.index(chance.choice(sorted(plain_later(sayings, good, deed, setting)))) for setting in good
                ] for deed in DEEDS})
                for state in range(len(good)):
                    end = run_from(step, world, state, 60)
                    if before.holds(good[state]) and end[1] == "done":
                        done += 1
                        self.assertTrue(after.holds(world.setting(end[2])))
        self.assertGreater(done, 500)

    def test_broken(self):
        broken = 0
        for before, step, after, sayings in some_cases(373, 500, 12):
            told = marked(before, step, after, sayings)
            if isinstance(told, Broken):
                broken += 1
                world = world_of(told.settings, told.deeds, sayings)
                last = len(told.deeds)
                states = list(range(last + 1 + len(plain_good(sayings))))
                self.assertIs(is_kept(world, sayings, states), True)
                self.assertTrue(before.holds(world.setting(0)))
                self.assertEqual(run_from(step, world, 0, last + 5), (told.deeds, "done", last))
                self.assertFalse(after.holds(world.setting(last)))
        self.assertGreater(broken, 100)

    def test_deeds_of_each_letter(self):
        for deed in DEEDS:
            told = marked(A, Deed(deed), B, sayings_of("behind " + deed + " : a : b"))
            self.assertIs(type(told), Kept)
            told = marked(A, Deed(deed), B, [])
            self.assertEqual(told.deeds, deed)
