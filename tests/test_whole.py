"""[1], [2], [3]: what is promised of the whole program."""

import importlib
import random
import unittest

from anymeaning.bonds import is_kept
from anymeaning.judge import Alike, Apart, judged
from anymeaning.marks import Broken, Kept, marked
from anymeaning.runs import run_from
from anymeaning.rooms import Rooms
from anymeaning.short import shorten, weight_of
from anymeaning.words import world_of
from anymeaning.worlds import listed_world
from tests.helper import DEEDS, Plain, pairs_of_programs, plain_good, plain_later, shape, some_test

INTERFACE = {
    "errors": "MeaningError NoTest NoProgram NoWorld NoSaying NoName NoRow TooMuch",
    "signs": "Test Yes No Named Not Both Either",
    "signwords": "read_test",
    "steps": "Step Skip Stop Deed Row Choice Loop",
    "texts": "read_program",
    "worlds": "World listed_world",
    "runs": "run_from",
    "rooms": "Rooms",
    "sayings": "Saying Nowhere Behind Through",
    "bonds": "Bonds is_kept is_due",
    "saywords": "read_saying",
    "judge": "Verdict Alike Apart judged",
    "words": "world_of",
    "marks": "Finding Kept Broken marked",
    "short": "weight_of shorter shorten",
    "desk": "Desk",
}


def keeping_worlds(chance, sayings, number):
    """Listed worlds that keep the sayings: some states with good settings, and ways by chance."""
    good = plain_good(sayings)
    found = []
    while good and len(found) < number:
        settings = sorted(good) + [chance.choice(sorted(good)) for _ in range(chance.randint(0, 6))]
        chance.shuffle(settings)
        leads = {}
        for deed in DEEDS:
            ways = [plain_later(sayings, good, deed, setting) for setting in settings]
            leads[deed] = [
                chance.choice([state for state, later in enumerate(settings) if later in way]) for way in ways
            ]
        found.append((listed_world(settings, leads), len(settings)))
    return found


class InterfaceTest(unittest.TestCase):
    def test_all_is_there(self):
        for module, names in INTERFACE.items():
            there = importlib.import_module("anymeaning." + module)
            for name in names.split(" "):
                self.assertTrue(callable(getattr(there, name)), (module, name))
                self.assertEqual(getattr(there, name).__module__, "anymeaning." + module)


class WholeTest(unittest.TestCase):
    def test_alike_runs_alike_and_apart_parts(self):
        chance = random.Random(31)
        counts = {Alike: 0, Apart: 0}
        for one, other, sayings in pairs_of_programs(32, 500, 14):
            before = (shape(one), shape(other), [shape(saying) for saying in sayings])
            told = judged(one, other, sayings)
            self.assertIs(told.stands(one, other, sayings), True)
            counts[type(told)] += 1
            if isinstance(told, Alike):
                for world, states in keeping_worlds(chance, sayings, 2):
                    self.assertIs(is_kept(world, sayings, list(range(states))), True)
                    for state in range(states):
                        self.assertEqual(run_from(one, world, state, 50), run_from(other, world, state, 50))
            else:
                world = world_of(told.settings, told.deeds, sayings)
                states = len(told.settings) + len(plain_good(sayings))
                self.assertIs(is_kept(world, sayings, list(range(states))), True)
                most = len(told.deeds) + 1
                left = run_from(one, world, 0, most)
                right = run_from(other, world, 0, most)
                self.assertTrue(left[0].startswith(told.deeds) and right[0].startswith(told.deeds))
                cut = run_from(one, world, 0, most - 1)[:2] != run_from(other, world, 0, most - 1)[:2]
                self.assertTrue(cut or left[0] != right[0])
            self.assertEqual((shape(one), shape(other), [shape(saying) for saying in sayings]), before)
        self.assertGreater(min(counts.values()), 100)

    def test_whatever_stands_is_right(self):
        """Answers made by chance: what stands of them agrees with what is told."""
        chance = random.Random(33)
        stood = {"table": 0, "word": 0}
        for one, other, sayings in pairs_of_programs(34, 800, 5):
            plain = Plain(one, other, sayings)
            are_alike = plain.shortest() is None
            every = [(a, b, 65535) for a in range(len(plain.one)) for b in range(len(plain.other))]
            for _ in range(10):
                table = [(a, b, mask & chance.choice([65535, chance.randrange(65536)])) for a, b, mask in every]
                if Alike(table + every[:1]).stands(one, other, sayings):
                    stood["table"] += 1
                    self.assertTrue(are_alike)
                letters = chance.randint(0, 2)
                settings = [chance.randrange(16) for _ in range(letters + 1)]
                if Apart(settings, "".join(chance.choice("PQ") for _ in range(letters))).stands(one, other, sayings):
                    stood["word"] += 1
                    self.assertFalse(are_alike)
        self.assertGreater(min(stood.values()), 20, stood)

    def test_kept_and_broken(self):
        chance = random.Random(35)
        counts = {Kept: 0, Broken: 0}
        for step, _, sayings in pairs_of_programs(36, 400, 12):
            before, after = some_test(chance, 2), some_test(chance, 3)
            told = marked(before, step, after, sayings)
            self.assertIs(told.stands(before, step, after, sayings), True)
            counts[type(told)] += 1
            if isinstance(told, Kept):
                for world, states in keeping_worlds(chance, sayings, 2):
                    for state in range(states):
                        _, end, last = run_from(step, world, state, 50)
                        if before.holds(world.setting(state)) and end == "done":
                            self.assertTrue(after.holds(world.setting(last)))
            else:
                world = world_of(told.settings, told.deeds, sayings)
                last = len(told.deeds)
                self.assertEqual(run_from(step, world, 0, last), (told.deeds, "done", last))
                self.assertTrue(before.holds(world.setting(0)))
                self.assertFalse(after.holds(world.setting(last)))
        self.assertGreater(min(counts.values()), 50)

    def test_shortened_programs_run_alike(self):
        chance = random.Random(37)
        shortened = 0
        for step, _, sayings in pairs_of_programs(38, 200, 14):
            if weight_of(step) > 40:
                continue
            last = shorten(step, sayings)[-1]
            shortened += weight_of(last) < weight_of(step)
            for world, states in keeping_worlds(chance, sayings, 2):
                for state in range(states):
                    told = run_from(step, world, state, 50)
                    self.assertEqual(run_from(last, world, state, 50), told)
                    self.assertEqual(Rooms(last).run(world, state, 50), told)
        self.assertGreater(shortened, 50)

    def test_the_same_is_told_each_time(self):
        for one, other, sayings in pairs_of_programs(39, 100, 12):
            first = judged(one, other, sayings)
            again = judged(one, other, sayings)
            self.assertEqual(vars(first), vars(again))
            first = marked(some_test(random.Random(1), 3), one, some_test(random.Random(2), 2), sayings)
            again = marked(some_test(random.Random(1), 3), one, some_test(random.Random(2), 2), sayings)
            self.assertEqual(vars(first), vars(again))
