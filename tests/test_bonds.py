"""[2], [22], [23], [24]: good settings, ways, what a world keeps and what is due."""

import itertools
import random
import unittest

from anymeaning.bonds import Bonds, is_due, is_kept
from anymeaning.sayings import Behind, Nowhere, Through
from anymeaning.saywords import read_saying
from anymeaning.signs import Both, No, Not, Yes
from anymeaning.signwords import read_test
from anymeaning.worlds import World, listed_world
from tests.helper import (
    A, B, C, D, DEEDS, SETTINGS, mask_of, plain_good, plain_later, sayings_of, shape, some_saying, some_sayings,
    some_test,
)


def closed_sets_joined(sayings, settings):
    """All of the settings that are in some set that [22] lets be, found by going through all sets."""
    open_ones = [setting for setting in settings if not any(saying.bars(setting) for saying in sayings)]
    ways = {
        (deed, setting): mask_of(plain_later(sayings, SETTINGS, deed, setting))
        for deed in DEEDS for setting in open_ones
    }
    joined = 0
    for size in range(len(open_ones) + 1):
        for chosen in itertools.combinations(open_ones, size):
            mask = mask_of(chosen)
            if mask & ~joined and all(ways[(deed, setting)] & mask for deed in DEEDS for setting in chosen):
                joined |= mask
    return joined


class GoodTest(unittest.TestCase):
    def check(self, mask, *texts):
        with self.subTest(texts=texts):
            self.assertEqual(Bonds(sayings_of(*texts)).good(), mask)

    def test_without_sayings(self):
        bonds = Bonds([])
        self.assertEqual(bonds.good(), 65535)
        for deed in DEEDS:
            for setting in SETTINGS:
                self.assertEqual(bonds.ways(deed, setting), 65535)

    def test_barred_alone(self):
        self.check(21845, "nowhere a")
        self.check(0, "nowhere yes")
        self.check(65535, "nowhere no")
        self.check(mask_of([0, 1, 2, 4, 5, 6, 8, 9, 10, 12, 13, 14]), "nowhere a and b")
        self.check(1, "nowhere a", "nowhere b", "nowhere c or d")

    def test_left_out_at_the_first_going_through(self):
        self.check(21845, "behind P : a : no")
        self.check(21845, "nowhere b and not b", "behind T : a : no")
        self.check(mask_of(s for s in SETTINGS if s & 3 == 0), "nowhere b", "behind Q : a : b")

    def test_left_out_later(self):
        # d has no way; c leads to d alone; b to c alone; a to b alone.
        self.check(
            1, "behind P : d : no", "behind Q : c : d", "behind R : b : c", "behind S : a : b",
        )
        self.check(0, "behind P : d : no", "behind Q : c : d", "behind R : b : c", "behind S : not b : b")
        self.check(
            mask_of([1, 3]), "nowhere c", "behind P : not a and d : no", "behind Q : a and d : not a and d",
            "behind S : not a and not d : a and d",
        )

    def test_none_good(self):
        self.check(0, "behind P : yes : no")
        self.check(0, "behind P : yes : a", "nowhere a")
        self.check(0, "behind P : yes : a", "behind P : yes : not a")
        self.check(0, "behind P : a : not a", "behind P : not a : a", "through P : a")
        self.check(0, "nowhere a", "nowhere not a")

    def test_all_sets_of_four_settings(self):
        chance = random.Random(221)
        told = {}
        for _ in range(400):
            # Two letters alone are left, so there are four settings and sixteen sets of them.
            sayings = some_sayings(chance, 6) + sayings_of("nowhere c or d")
            good = Bonds(sayings).good()
            self.assertEqual(good, closed_sets_joined(sayings, range(4)), [saying.text() for saying in sayings])
            told[good] = True
        self.assertGreater(len(told), 8)

    def test_all_sets_of_eight_settings(self):
        chance = random.Random(222)
        for _ in range(60):
            sayings = some_sayings(chance, 7) + sayings_of("nowhere d")
            good = Bonds(sayings).good()
            self.assertEqual(good, closed_sets_joined(sayings, range(8)), [saying.text() for saying in sayings])

    def test_all_sets_of_all_settings(self):
        for texts in (
            ("behind P : d : no", "behind Q : c : d", "behind R : b : c", "behind S : a : b"),
            ("behind P : a : b and c", "through Q : d", "nowhere b and d"),
        ):
            sayings = sayings_of(*texts)
            self.assertEqual(Bonds(sayings).good(), closed_sets_joined(sayings, SETTINGS))

    def test_many_against_leaving_out_one_by_one(self):
        chance = random.Random(223)
        for _ in range(400):
            sayings = some_sayings(chance)
            bonds = Bonds(sayings)
            good = plain_good(sayings)
            self.assertEqual(bonds.good(), mask_of(good), [saying.text() for saying in sayings])
            for deed in DEEDS:
                for setting in SETTINGS:
                    told = bonds.ways(deed, setting)
                    self.assertIs(type(told), int)
                    self.assertEqual(told, mask_of(plain_later(sayings, good, deed, setting)))


class WaysTest(unittest.TestCase):
    def test_behind_and_through(self):
        bonds = Bonds(sayings_of("behind P : a : b", "through Q : c"))
        self.assertEqual(bonds.ways("P", 1), 52428)
        self.assertEqual(bonds.ways("P", 0), 65535)
        self.assertEqual(bonds.ways("Q", 4), 61680)
        self.assertEqual(bonds.ways("Q", 1), 3855)
        self.assertEqual(bonds.ways("R", 5), 65535)

    def test_only_good_settings(self):
        bonds = Bonds(sayings_of("nowhere a", "behind T : b : no"))
        self.assertEqual(bonds.good(), mask_of([0, 4, 8, 12]))
        for deed in "PQRS":
            for setting in SETTINGS:
                self.assertEqual(bonds.ways(deed, setting), mask_of([0, 4, 8, 12]))

    def test_from_settings_that_are_not_good(self):
        bonds = Bonds(sayings_of("nowhere a", "behind P : a : c", "behind T : b : no", "through Q : a"))
        good = mask_of([0, 4, 8, 12])
        self.assertEqual(bonds.good(), good)
        self.assertEqual(bonds.ways("P", 1), mask_of([4, 12]))
        self.assertEqual(bonds.ways("P", 2), good)
        self.assertEqual(bonds.ways("T", 2), 0)
        self.assertEqual(bonds.ways("T", 1), good)
        self.assertEqual(bonds.ways("Q", 1), 0)
        self.assertEqual(bonds.ways("Q", 2), good)

    def test_none_good(self):
        bonds = Bonds(sayings_of("nowhere yes"))
        for deed in DEEDS:
            for setting in SETTINGS:
                self.assertEqual(bonds.ways(deed, setting), 0)

    def test_the_list_handed_in_changes_nothing_later(self):
        sayings = sayings_of("nowhere a", "behind P : b : c")
        before = [shape(saying) for saying in sayings]
        bonds = Bonds(sayings)
        self.assertEqual([shape(saying) for saying in sayings], before)
        sayings.append(Nowhere(Yes()))
        sayings.pop(0)
        self.assertEqual(bonds.good(), 21845)
        self.assertEqual(bonds.ways("P", 2), mask_of([4, 6, 12, 14]))
        sayings.clear()
        self.assertEqual(bonds.good(), 21845)

    def test_eight_long_sayings(self):
        test = some_test(random.Random(5), 40)
        sayings = [Behind(test, deed, Not(Both(A, B))) for deed in DEEDS] + [Through(C, "P")] * 3
        self.assertEqual(Bonds(sayings).good(), mask_of(plain_good(sayings)))


class KeptTest(unittest.TestCase):
    def world(self):
        # a at 0, b at 1, a and b at 2, nothing at 3.
        return listed_world([1, 2, 3, 0], {
            "P": [1, 2, 3, 3], "Q": [0, 1, 2, 3], "R": [3, 3, 3, 3], "S": [0, 0, 0, 0], "T": [2, 2, 2, 2],
        })

    def check(self, text, kept):
        """At which of the four states, each by itself, the saying is kept."""
        world = self.world()
        with self.subTest(text=text):
            for state in range(4):
                self.assertIs(is_kept(world, [read_saying(text)], [state]), state in kept, state)
            self.assertIs(is_kept(world, [read_saying(text)], [0, 1, 2, 3]), len(kept) == 4)
            self.assertIs(is_kept(world, [read_saying(text)], list(kept)), True)

    def test_nowhere(self):
        self.check("nowhere a", (1, 3))
        self.check("nowhere a and b", (0, 1, 3))
        self.check("nowhere d", (0, 1, 2, 3))
        self.check("nowhere yes", ())

    def test_behind(self):
        self.check("behind P : a : b", (0, 1, 3))
        self.check("behind P : yes : b", (0, 1))
        self.check("behind R : a : no", (1, 3))
        self.check("behind Q : a : a", (0, 1, 2, 3))
        self.check("behind S : yes : a and not b", (0, 1, 2, 3))
        self.check("behind T : yes : not a", ())

    def test_through(self):
        self.check("through P : a", (3,))
        self.check("through P : b", (1, 3))
        self.check("through Q : a", (0, 1, 2, 3))
        self.check("through R : a", (1, 3))
        self.check("through T : a and b", (2,))

    def test_several_sayings_and_states(self):
        world = self.world()
        both = sayings_of("nowhere a and b", "behind P : yes : b")
        self.assertIs(is_kept(world, both, [0, 1]), True)
        self.assertIs(is_kept(world, both, [0, 1, 2]), False)
        self.assertIs(is_kept(world, both, [3]), False)
        self.assertIs(is_kept(world, both, []), True)
        self.assertIs(is_kept(world, [], [0, 1, 2, 3]), True)
        self.assertIs(is_kept(world, sayings_of("nowhere yes"), []), True)

    def test_a_state_at_which_it_is_kept_need_not_be_good(self):
        # No setting is good here, yet at state 0 alone nothing is broken.
        world = listed_world([1, 0], {deed: [1, 0] for deed in DEEDS})
        sayings = sayings_of("behind P : yes : not a", "behind P : not a : a")
        self.assertEqual(Bonds(sayings).good(), 0)
        self.assertIs(is_kept(world, sayings, [0]), True)
        self.assertIs(is_kept(world, sayings, [1]), False)

    def test_a_barred_setting_behind_is_not_asked(self):
        world = listed_world([0, 1], {deed: [1, 1] for deed in DEEDS})
        sayings = sayings_of("nowhere a")
        self.assertIs(is_kept(world, sayings, [0]), True)
        self.assertIs(is_kept(world, sayings, [1]), False)

    def test_worlds_without_end(self):
        world = World(lambda state: state % 4, lambda deed, state: state + 1 if deed == "P" else state)
        sayings = sayings_of("behind P : a and b : not a", "behind P : not a : a", "nowhere c", "through Q : b")
        self.assertIs(is_kept(world, sayings, list(range(-40, 40)) + [10 ** 30]), True)
        self.assertIs(is_kept(world, sayings + sayings_of("through P : a"), [0]), False)
        self.assertIs(is_kept(world, sayings + sayings_of("through P : b"), [10 ** 30, 2]), True)
        self.assertIs(is_kept(world, sayings + sayings_of("through P : b"), [10 ** 30, 3]), False)

    def test_many_worlds_by_plain_words(self):
        chance = random.Random(231)
        told = {True: 0, False: 0}
        for _ in range(1500):
            settings = [chance.choice([0, 1, 2, 3, 8]) for _ in range(3)]
            world = listed_world(settings, {deed: [chance.randrange(3) for _ in range(3)] for deed in DEEDS})
            sayings = some_sayings(chance, 3)
            states = [state for state in range(3) if chance.random() < 0.6]
            expected = all(
                not saying.bars(settings[state])
                and all(saying.lets(deed, settings[state], settings[world.led(deed, state)]) for deed in DEEDS)
                for saying in sayings for state in states
            )
            before = (list(states), [shape(saying) for saying in sayings])
            self.assertIs(is_kept(world, sayings, states), expected)
            self.assertEqual((states, [shape(saying) for saying in sayings]), before)
            told[expected] += 1
        self.assertGreater(min(told.values()), 200)

    def test_three_thousand_states(self):
        world = listed_world([1] * 2999 + [0], {deed: [2998] * 2999 + [2999] for deed in DEEDS})
        sayings = sayings_of("behind P : a : a", "through Q : a", "nowhere b")
        self.assertIs(is_kept(world, sayings, list(range(3000))), True)
        self.assertIs(is_kept(world, sayings + [Nowhere(Not(A))], list(range(3000))), False)
        self.assertIs(is_kept(world, sayings + [Nowhere(Not(A))], list(range(2999))), True)


class DueTest(unittest.TestCase):
    def check(self, sayings, due, not_due):
        sayings = sayings_of(*sayings)
        for texts, told in ((due, True), (not_due, False)):
            for text in texts:
                with self.subTest(text=text):
                    self.assertIs(is_due(sayings, read_saying(text)), told)

    def test_without_sayings(self):
        self.check(
            [],
            ["nowhere no", "nowhere a and not a", "behind P : no : a", "behind P : a : yes", "through P : yes",
             "through P : no", "behind Q : a and b : a or not a"],
            ["nowhere a", "nowhere yes", "behind P : a : a", "behind P : yes : a", "through P : a",
             "behind T : d : no"],
        )

    def test_nowhere(self):
        self.check(
            ["nowhere a and b", "behind P : c : no"],
            ["nowhere a and b", "nowhere c", "nowhere a and b and d", "nowhere c and d", "behind Q : yes : not c",
             "through R : c", "behind P : c : no", "behind S : a : not ( a and b )"],
            ["nowhere a", "nowhere d", "nowhere a or c", "through P : a", "behind P : d : no"],
        )

    def test_behind(self):
        self.check(
            ["behind P : a : b", "behind P : b : c", "behind Q : yes : d"],
            ["behind P : a : b", "behind P : a and b : b and c", "behind P : a and d : b or d", "behind Q : a : d",
             "behind P : a and b : b"],
            ["behind P : a : b and c", "behind P : a or b : b", "behind Q : yes : a", "behind R : a : b",
             "through P : a", "through Q : d"],
        )

    def test_through(self):
        self.check(
            ["through P : a", "through P : b", "behind Q : c : c", "behind Q : not c : not c"],
            ["through P : a", "through P : not a", "through P : a and b", "through P : a or not b", "through Q : c",
             "behind P : a : a", "behind P : not b : not b", "behind P : a and b : a or d"],
            ["through Q : a", "through P : c", "through P : a and c", "behind P : a : b", "through R : a"],
        )

    def test_none_good(self):
        self.check(
            ["behind P : yes : no"],
            ["nowhere yes", "behind Q : yes : no", "through R : a", "nowhere no"],
            [],
        )

    def test_by_ways_not_by_the_sayings_alone(self):
        # No setting with c is good, so P leads to none.
        self.check(
            ["behind P : a : b or c", "behind T : c : no"],
            ["behind P : a : b", "nowhere c", "behind S : yes : not c"],
            ["behind P : yes : b", "behind P : a : a"],
        )

    def test_many_by_plain_words(self):
        chance = random.Random(241)
        told = {True: 0, False: 0}
        for _ in range(1500):
            sayings = some_sayings(chance, 5)
            saying = some_saying(chance) if chance.random() < 0.7 or not sayings else chance.choice(sayings)
            good = plain_good(sayings)
            expected = all(
                not saying.bars(setting)
                and all(
                    saying.lets(deed, setting, later)
                    for deed in DEEDS for later in plain_later(sayings, good, deed, setting)
                )
                for setting in good
            )
            before = [shape(one) for one in sayings + [saying]]
            self.assertIs(is_due(sayings, saying), expected, [one.text() for one in sayings + [saying]])
            self.assertEqual([shape(one) for one in sayings + [saying]], before)
            told[expected] += 1
        self.assertGreater(min(told.values()), 200)

    def test_each_saying_is_due_under_itself(self):
        chance = random.Random(242)
        for _ in range(300):
            sayings = some_sayings(chance)
            for saying in sayings:
                self.assertIs(is_due(sayings, saying), True)

    def test_a_world_that_keeps_all_keeps_what_is_due(self):
        chance = random.Random(243)
        kept = 0
        for _ in range(1500):
            sayings = some_sayings(chance, 3)
            saying = some_saying(chance)
            settings = [chance.randrange(16) for _ in range(3)]
            world = listed_world(settings, {deed: [chance.randrange(3) for _ in range(3)] for deed in DEEDS})
            if is_kept(world, sayings, [0, 1, 2]):
                good = Bonds(sayings).good()
                self.assertTrue(all(good >> setting & 1 for setting in settings))
                if is_due(sayings, saying):
                    kept += 1
                    self.assertIs(is_kept(world, [saying], [0, 1, 2]), True)
        self.assertGreater(kept, 50)

    def test_the_world_of_all_good_settings_keeps_only_what_is_due(self):
        """The worlds with one state for each good setting and any of the ways: each setting stands in one."""
        chance = random.Random(244)
        for _ in range(200):
            sayings = some_sayings(chance, 4)
            saying = some_saying(chance)
            good = sorted(plain_good(sayings))
            if not good:
                continue
            broken = False
            for turn in range(16):
                leads = {}
                for deed in DEEDS:
                    ways = [sorted(plain_later(sayings, good, deed, setting)) for setting in good]
                    leads[deed] = [good.index(row[turn % len(row)]) for row in ways]
                world = listed_world(good, leads)
                states = list(range(len(good)))
                self.assertIs(is_kept(world, sayings, states), True)
                broken = broken or not is_kept(world, [saying], states)
            self.assertIs(is_due(sayings, saying), not broken)

    def test_tests_of_many_parts(self):
        test = read_test("not ( a or b ) and ( c or not d ) or a and b and not c or ( d and ( a or b or c ) )")
        self.assertIs(is_due([Nowhere(test)], Nowhere(Both(test, D))), True)
        self.assertIs(is_due([Nowhere(test)], Nowhere(Not(test))), False)
        self.assertIs(is_due([Nowhere(test)], Behind(B, "P", No())), False)
