"""[2], [14], [15]: worlds, made of two functions or listed."""

import unittest

from anymeaning.errors import NoWorld
from anymeaning.worlds import World, listed_world
from tests.helper import DEEDS


def staying(states):
    """Leads of a world in which each deed leads from each state to itself."""
    return {deed: list(range(states)) for deed in DEEDS}


class WorldTest(unittest.TestCase):
    def test_tells_what_its_functions_tell(self):
        world = World(lambda state: state % 16, lambda deed, state: state * 10 + DEEDS.index(deed))
        for state in (0, 1, 15, 16, 17, -1, -100, 10 ** 30, -(10 ** 30)):
            self.assertEqual(world.setting(state), state % 16)
            for number, deed in enumerate(DEEDS):
                self.assertEqual(world.led(deed, state), state * 10 + number)

    def test_arguments_by_name(self):
        world = World(leads=lambda deed, state: 7, says=lambda state: 9)
        self.assertEqual(world.setting(3), 9)
        self.assertEqual(world.led("P", 3), 7)

    def test_making_it_asks_neither(self):
        asked = []
        world = World(lambda state: asked.append(state) or 4, lambda deed, state: asked.append((deed, state)) or 5)
        self.assertEqual(asked, [])
        self.assertEqual(world.setting(8), 4)
        self.assertEqual(asked, [8])
        self.assertEqual(world.led("Q", 9), 5)
        self.assertEqual(asked, [8, ("Q", 9)])

    def test_two_worlds_beside_each_other(self):
        one = World(lambda state: 1, lambda deed, state: state + 1)
        two = World(lambda state: 2, lambda deed, state: state + 2)
        self.assertEqual((one.setting(0), two.setting(0), one.led("P", 0), two.led("P", 0)), (1, 2, 1, 2))


class ListedTest(unittest.TestCase):
    def check(self, settings, leads):
        world = listed_world(settings, leads)
        self.assertIsInstance(world, World)
        for state, setting in enumerate(settings):
            self.assertEqual(world.setting(state), setting)
            for deed in DEEDS:
                self.assertEqual(world.led(deed, state), leads[deed][state])

    def test_one_state(self):
        for setting in range(16):
            self.check([setting], staying(1))

    def test_some_states(self):
        self.check([3, 0, 15], {"P": [1, 2, 0], "Q": [0, 0, 0], "R": [2, 2, 2], "S": [0, 1, 2], "T": [2, 1, 0]})
        self.check(list(range(16)), {deed: [(7 * k + ord(deed)) % 16 for k in range(16)] for deed in DEEDS})

    def test_three_thousand_states(self):
        settings = [(k * k) % 16 for k in range(3000)]
        self.check(settings, {deed: [(k * 7 + ord(deed)) % 3000 for k in range(3000)] for deed in DEEDS})
        self.check(settings, {deed: [2999 - k for k in range(3000)] for deed in DEEDS})

    def test_arguments_by_name(self):
        world = listed_world(leads=staying(2), settings=[4, 5])
        self.assertEqual((world.setting(1), world.led("T", 1)), (5, 1))

    def test_keys_in_any_order(self):
        leads = {deed: [DEEDS.index(deed)] * 5 for deed in "TSRQP"}
        self.check([0, 1, 2, 3, 4], leads)

    def test_what_was_handed_in_stays_the_askers_own(self):
        settings = [1, 2, 3]
        row = [2, 0, 1]
        leads = {deed: row if deed in "PQ" else [0, 1, 2] for deed in DEEDS}
        world = listed_world(settings, leads)
        self.assertEqual(settings, [1, 2, 3])
        self.assertEqual(leads, {deed: [2, 0, 1] if deed in "PQ" else [0, 1, 2] for deed in DEEDS})
        settings[0] = 9
        settings.append(4)
        row[0] = 0
        row.clear()
        leads["R"][1] = 0
        leads["S"] = [0, 0, 0]
        del leads["T"]
        leads["X"] = []
        self.assertEqual([world.setting(state) for state in range(3)], [1, 2, 3])
        for deed, told in (("P", [2, 0, 1]), ("Q", [2, 0, 1]), ("R", [0, 1, 2]), ("S", [0, 1, 2]), ("T", [0, 1, 2])):
            self.assertEqual([world.led(deed, state) for state in range(3)], told)


class RefusedTest(unittest.TestCase):
    def refused(self, settings, leads):
        with self.assertRaises(NoWorld) as taken:
            listed_world(settings, leads)
        self.assertIs(type(taken.exception), NoWorld)

    def test_no_settings(self):
        self.refused([], staying(0))
        self.refused([], staying(1))
        self.refused([], {})

    def test_too_many_settings(self):
        self.refused([0] * 3001, staying(3001))
        self.refused([0] * 5000, staying(5000))
        self.refused([0] * 3001, staying(3000))

    def test_numbers_that_are_no_settings(self):
        for wrong in (-1, 16, 17, -16, 100, 65535, -(10 ** 20), 10 ** 20):
            for place in range(3):
                settings = [0, 15, 7]
                settings[place] = wrong
                self.refused(settings, staying(3))
            self.refused([wrong], staying(1))

    def test_a_deed_that_lacks(self):
        for deed in DEEDS:
            leads = staying(2)
            del leads[deed]
            self.refused([0, 0], leads)
            leads["U"] = [0, 1]
            self.refused([0, 0], leads)
        self.refused([0, 0], {})

    def test_another_key(self):
        for key in ("U", "p", "", "PQ", "P ", "O", 0, None, ("P",)):
            self.refused([0, 0], {**staying(2), key: [0, 1]})

    def test_lists_shorter_or_longer(self):
        for deed in DEEDS:
            for states in ([], [0], [0, 1], [0, 1, 2, 0], [0] * 3000):
                self.refused([1, 2, 3], {**staying(3), deed: states})

    def test_numbers_that_are_no_states(self):
        for deed in DEEDS:
            for wrong in (-1, -3, 3, 4, 3000, 10 ** 20, -(10 ** 20)):
                for place in range(3):
                    leads = staying(3)
                    leads[deed][place] = wrong
                    self.refused([1, 2, 3], leads)
        leads = staying(3000)
        leads["T"][2999] = 3000
        self.refused([0] * 3000, leads)

    def test_nothing_handed_in_is_changed(self):
        settings = [1, 2, 16]
        leads = staying(3)
        self.refused(settings, leads)
        self.assertEqual(settings, [1, 2, 16])
        self.assertEqual(leads, staying(3))
