"""[31]: the world of a word."""

import random
import unittest

from anymeaning.bonds import Bonds, is_kept
from anymeaning.judge import Apart, judged
from anymeaning.rooms import Rooms
from anymeaning.runs import run_from
from anymeaning.sayings import Behind, Nowhere
from anymeaning.signs import Not, Yes
from anymeaning.texts import read_program
from anymeaning.words import world_of
from anymeaning.worlds import World
from tests.helper import A, B, DEEDS, pairs_of_programs, plain_good, plain_later, sayings_of, some_sayings


def some_word(chance, sayings, letters):
    """A word of so many letters that goes by the ways, or None where no setting is good."""
    good = plain_good(sayings)
    if not good:
        return None
    settings = [chance.choice(sorted(good))]
    deeds = ""
    ways = {}
    for _ in range(letters):
        deed = chance.choice(DEEDS)
        key = (deed, settings[-1])
        if key not in ways:
            ways[key] = sorted(plain_later(sayings, good, deed, settings[-1]))
        settings.append(chance.choice(ways[key]))
        deeds += deed
    return (settings, deeds)


class WorldOfTest(unittest.TestCase):
    def check(self, settings, deeds, sayings):
        """The world, state by state, as [31] tells."""
        before = (list(settings), [saying.text() for saying in sayings])
        world = world_of(settings, deeds, sayings)
        self.assertIsInstance(world, World)
        self.assertEqual((settings, [saying.text() for saying in sayings]), before)
        good = sorted(plain_good(sayings))
        states = list(settings) + good
        ways = {
            (deed, setting): plain_later(sayings, good, deed, setting) for deed in DEEDS for setting in set(states)
        }
        for state, setting in enumerate(states):
            self.assertEqual(world.setting(state), setting)
            for deed in DEEDS:
                if state < len(deeds) and deeds[state] == deed:
                    led = state + 1
                else:
                    led = len(settings) + good.index(min(ways[(deed, setting)]))
                self.assertEqual(world.led(deed, state), led, (state, deed))
        self.assertIs(is_kept(world, sayings, list(range(len(states)))), True)
        return world

    def test_without_sayings(self):
        world = self.check([3, 5], "P", [])
        self.assertEqual([world.setting(state) for state in range(18)], [3, 5] + list(range(16)))
        self.assertEqual(world.led("P", 0), 1)
        self.assertEqual(world.led("Q", 0), 2)
        self.assertEqual([world.led("P", state) for state in range(1, 18)], [2] * 17)

    def test_under_sayings(self):
        sayings = sayings_of("nowhere a", "behind P : b : c", "through Q : b")
        world = self.check([2, 4, 0], "PR", sayings)
        self.assertEqual([world.setting(state) for state in range(11)], [2, 4, 0, 0, 2, 4, 6, 8, 10, 12, 14])
        self.assertEqual([world.led("P", state) for state in range(11)], [1, 3, 3, 3, 5, 3, 5, 3, 5, 3, 5])
        self.assertEqual([world.led("Q", state) for state in range(11)], [4, 3, 3, 3, 4, 3, 4, 3, 4, 3, 4])
        self.assertEqual([world.led("R", state) for state in range(11)], [3, 2, 3, 3, 3, 3, 3, 3, 3, 3, 3])

    def test_without_letters(self):
        for setting in range(16):
            world = self.check([setting], "", [])
            self.assertEqual(world.setting(0), setting)
        self.check([2], "", sayings_of("nowhere a", "behind T : b : b"))

    def test_one_good_setting(self):
        sayings = sayings_of("nowhere not ( a and b and c and d )")
        self.check([15], "", sayings)
        self.check([15] * 5, "PQRS", sayings)

    def test_many_words(self):
        chance = random.Random(311)
        checked = 0
        for _ in range(200):
            sayings = some_sayings(chance, 5)
            word = some_word(chance, sayings, chance.randint(0, 12))
            if word is not None:
                self.check(word[0], word[1], sayings)
                checked += 1
        self.assertGreater(checked, 100)

    def test_long_words(self):
        chance = random.Random(312)
        for sayings in ([], sayings_of("nowhere a and b", "behind P : c : d", "through Q : b", "behind R : not d : d")):
            for letters in (100, 2703, 2900):
                settings, deeds = some_word(chance, sayings, letters)
                self.check(settings, deeds, sayings)

    def test_what_was_handed_in_changed_later(self):
        settings = [1, 2]
        sayings = [Behind(A, "P", B)]
        world = world_of(settings, "P", sayings)
        settings.clear()
        sayings.append(Nowhere(Yes()))
        self.assertEqual([world.setting(state) for state in range(3)], [1, 2, 0])
        self.assertEqual(world.led("P", 0), 1)
        self.assertEqual(world.led("P", 3), 4)

    def test_arguments_by_name(self):
        self.assertEqual(world_of(deeds="Q", sayings=[], settings=[4, 9]).led("Q", 0), 1)


class ApartTest(unittest.TestCase):
    def check(self, one, other, sayings, word):
        """Both do the word's deeds from state 0, then what their last doors tell: they part."""
        world = world_of(word.settings, word.deeds, sayings)
        last = len(word.deeds)
        states = last + 1 + Bonds(sayings).good().bit_count()
        self.assertIs(is_kept(world, sayings, list(range(states))), True)
        ends = []
        for step in (one, other):
            deeds, end, state = run_from(step, world, 0, last)
            self.assertEqual((deeds, state), (word.deeds, last))
            rooms = Rooms(step)
            room = 0
            for setting in word.settings[:-1]:
                room = rooms.doors[room][setting][1]
            door = rooms.doors[room][word.settings[-1]]
            told = run_from(step, world, 0, last + 1)
            if end == "more":
                self.assertEqual(told[0], word.deeds + door[0])
            else:
                self.assertEqual(told, (word.deeds, door[0], last))
            ends.append((told[0], end))
        self.assertNotEqual(ends[0], ends[1])

    def test_many_programs(self):
        checked = 0
        for one, other, sayings in pairs_of_programs(313, 600, 12):
            word = judged(one, other, sayings)
            if isinstance(word, Apart):
                self.check(one, other, sayings, word)
                checked += 1
        self.assertGreater(checked, 150)

    def test_a_word_that_is_not_the_shortest(self):
        one = read_program("while a { P }")
        other = read_program("while a { P ; if b { Q } }")
        word = Apart([1] * 2899 + [3, 2], "P" * 2900)
        self.assertIs(word.stands(one, other, []), False)
        word = Apart([1] * 2900 + [2], "P" * 2900)
        self.assertIs(word.stands(one, other, []), True)
        self.check(one, other, [], word)

    def test_a_long_word_under_sayings(self):
        sayings = [Behind(A, "P", Not(A)), Behind(Not(A), "P", A)]
        one = read_program("while yes { P }")
        other = read_program("while yes { P ; if a and b { stop } }")
        word = Apart([number % 2 for number in range(999)] + [3], "P" * 999)
        self.assertIs(word.stands(one, other, sayings), True)
        self.check(one, other, sayings, word)
