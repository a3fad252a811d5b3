"""[2], [26] to [30]: two programs held against each other, and which answers stand."""

import random
import unittest

from anymeaning.judge import Alike, Apart, Verdict, judged
from anymeaning.runs import run_from
from anymeaning.sayings import Nowhere
from anymeaning.signs import Yes
from anymeaning.steps import Choice, Loop, Row, Skip, Stop
from anymeaning.texts import read_program
from anymeaning.worlds import listed_world
from tests.helper import (
    A, B, C, DEEDS, P, Plain, Q, all_of, mask_of, pairs_of_programs, plain_good, plain_later, sayings_of, shape,
    some_steps, steps_by_size,
)

EVERY = 65535


class KindsTest(unittest.TestCase):
    def test_kinds(self):
        for kind in (Alike, Apart):
            self.assertTrue(issubclass(kind, Verdict))
            self.assertIsNot(kind, Verdict)
        self.assertFalse(issubclass(Alike, Apart))
        self.assertFalse(issubclass(Apart, Alike))

    def test_fields(self):
        self.assertEqual(Alike([(0, 0, 5)]).table, [(0, 0, 5)])
        self.assertEqual(Alike(table=[]).table, [])
        apart = Apart([1, 2], "P")
        self.assertEqual((apart.settings, apart.deeds), ([1, 2], "P"))
        apart = Apart(deeds="", settings=[3])
        self.assertEqual((apart.settings, apart.deeds), ([3], ""))


class JudgedTest(unittest.TestCase):
    def alike(self, one, other, sayings, table=None):
        with self.subTest(one=one, other=other):
            told = judged(read_program(one), read_program(other), sayings_of(*sayings))
            self.assertIs(type(told), Alike)
            if table is not None:
                self.assertEqual(told.table, table)

    def apart(self, one, other, sayings, letters):
        with self.subTest(one=one, other=other):
            told = judged(read_program(one), read_program(other), sayings_of(*sayings))
            self.assertIs(type(told), Apart)
            self.assertEqual(len(told.deeds), letters)
            self.assertTrue(told.stands(read_program(one), read_program(other), sayings_of(*sayings)))

    def test_alike_under_no_saying(self):
        self.alike("P", "P", [], [(0, 0, EVERY), (1, 1, EVERY)])
        self.alike("skip", "skip", [], [(0, 0, EVERY)])
        self.alike("stop", "stop ; P", [], [(0, 0, EVERY)])
        self.alike("P ; Q", "P ; skip ; Q", [], [(0, 0, EVERY), (1, 1, EVERY), (2, 2, EVERY)])
        self.alike("P ; { Q ; R }", "{ P ; Q } ; R", [])
        self.alike("if a { P } else { P }", "P", [], [(0, 0, EVERY), (1, 1, 65535), (2, 1, 65535)])
        self.alike("if a { P } else { Q }", "if not a { Q } else { P }", [])
        self.alike("while a { skip }", "while a { if b { skip } }", [])
        self.alike("while a { P }", "while a { P ; while a { P } }", [], [
            (0, 0, EVERY), (1, 1, EVERY), (1, 2, EVERY),
        ])
        self.alike("while a { P } ; while a { Q }", "while a { P }", [])
        self.alike("while a { if b { P } else { Q } }", "while a { while a and b { P } ; if a { Q } }", [])

    def test_loops_of_unlike_lengths(self):
        self.alike("while yes { P }", "while yes { P ; P }", [], [(0, 0, EVERY), (1, 1, EVERY), (1, 2, EVERY)])
        self.alike("while yes { P ; P }", "while yes { P ; P ; P }", [], [(0, 0, EVERY)] + sorted(
            (one, other, EVERY) for one in (1, 2) for other in (1, 2, 3)
        ))
        self.alike("while yes { P ; P ; P ; P }", "while yes { P ; P ; P ; P ; P }", [])
        self.apart("while a { P ; P }", "while a { P ; P ; P }", [], 2)
        self.apart("while a { P ; P }", "while a { P }", [], 1)
        self.alike(
            "while a { P ; P ; P ; P ; P ; P ; P }", "while a { P ; P ; P ; P ; P ; P ; P ; P ; P ; P ; P }",
            ["behind P : a : a"],
        )

    def test_what_is_asked_now_and_then(self):
        # The one asks b behind each seventh deed, the other behind each eleventh.
        one = "while yes { P ; P ; P ; P ; P ; P ; P ; if b { stop } }"
        other = "while yes { P ; P ; P ; P ; P ; P ; P ; P ; P ; P ; P ; if b { stop } }"
        self.apart(one, other, [], 7)
        self.alike(one, other, ["behind P : yes : not b"])

    def test_apart_under_no_saying(self):
        self.apart("P", "Q", [], 0)
        self.apart("P", "skip", [], 0)
        self.apart("skip", "stop", [], 0)
        self.apart("stop", "while yes { skip }", [], 0)
        self.apart("skip", "while a { skip }", [], 0)
        self.apart("P", "P ; Q", [], 1)
        self.apart("P ; Q ; R", "P ; Q ; S", [], 2)
        self.apart("if a { P } else { Q }", "P", [], 0)
        self.apart("if a { P } ; if a { Q }", "if a { P ; Q }", [], 1)
        self.apart("while a { P }", "if a { P }", [], 1)

    def test_under_sayings(self):
        self.alike("if a { P } else { Q }", "P", ["nowhere not a"])
        self.apart("if a { P } else { Q }", "P", ["nowhere a"], 0)
        self.alike("if a { P } ; if a { Q }", "if a { P ; Q }", ["through P : a"], [
            (0, 0, EVERY), (1, 1, 43690), (2, 2, EVERY),
        ])
        self.alike("while a { P }", "if a { P }", ["behind P : a : not a"], [(0, 0, EVERY), (1, 1, 21845)])
        self.apart("while a { P }", "if a { P }", ["behind P : not a : not a"], 1)
        self.alike("while a { P }", "if a { P ; while yes { P } }", ["behind P : a : a"])
        self.alike("P ; if b { Q } else { R }", "P ; Q", ["behind P : yes : b"], [
            (0, 0, EVERY), (1, 1, 52428), (2, 2, EVERY),
        ])
        self.alike("P ; if a or b { Q }", "P ; Q", ["behind P : yes : a or c", "nowhere c"])

    def test_settings_that_are_not_good_do_not_count(self):
        # Where b holds no deed T may come, so no world has b, though none bars it.
        self.alike("if b { P } else { Q }", "Q", ["behind T : b : no"], [(0, 0, 13107), (2, 1, 13107)])
        self.alike("P ; if b { stop }", "P", ["behind T : b : no"])

    def test_no_setting_good(self):
        for one, other in (("P", "Q"), ("skip", "stop"), ("P ; Q", "P ; Q"), ("while a { P }", "skip")):
            self.alike(one, other, ["nowhere yes"], [(0, 0, 0)])
            self.alike(one, other, ["behind S : yes : no"], [(0, 0, 0)])

    def test_one_program_handed_in_twice(self):
        step = Row(Loop(A, P), Choice(B, P, Q))
        self.assertIs(type(judged(step, step, [])), Alike)

    def test_kinds_of_what_is_told(self):
        told = judged(P, P, [])
        self.assertIs(type(told.table), list)
        for row in told.table:
            self.assertIs(type(row), tuple)
            self.assertEqual([type(number) for number in row], [int, int, int])
        told = judged(P, Row(P, Q), [])
        self.assertIs(type(told.settings), list)
        self.assertEqual([type(number) for number in told.settings], [int, int])
        self.assertIs(type(told.deeds), str)

    def test_what_is_handed_in_is_not_changed_and_each_answer_is_new(self):
        sayings = sayings_of("through P : a", "nowhere b")
        before = [shape(saying) for saying in sayings]
        one = Row(Loop(A, P), Q)
        other = Row(Loop(A, P), Q)
        first = judged(one, other, sayings)
        table = list(first.table)
        first.table.clear()
        self.assertEqual(judged(one, other, sayings).table, table)
        word = judged(one, P, sayings)
        settings = list(word.settings)
        word.settings.append(99)
        self.assertEqual(judged(one, P, sayings).settings, settings)
        self.assertEqual([shape(saying) for saying in sayings], before)
        self.assertEqual(shape(one), shape(other))


class SearchTest(unittest.TestCase):
    def check(self, one, other, sayings):
        plain = Plain(one, other, sayings)
        told = judged(one, other, sayings)
        about = (one.text(), other.text(), [saying.text() for saying in sayings])
        shortest = plain.shortest()
        if shortest is None:
            self.assertIs(type(told), Alike, about)
            self.assertEqual(told.table, plain.table(), about)
            self.assertTrue(plain.is_table(told.table), about)
        else:
            self.assertIs(type(told), Apart, about)
            self.assertEqual(len(told.deeds), shortest, about)
            self.assertTrue(plain.is_word(told.settings, told.deeds), about)
        self.assertIs(told.stands(one, other, sayings), True, about)
        return type(told)

    def test_small_programs(self):
        steps = all_of(steps_by_size([Skip(), Stop(), P], [A], 3))
        for one in steps:
            for other in steps:
                for sayings in ([], sayings_of("through P : a"), sayings_of("behind P : yes : not a", "nowhere b")):
                    self.check(one, other, sayings)

    def test_many_programs(self):
        told = {Alike: 0, Apart: 0}
        for one, other, sayings in pairs_of_programs(281, 1200, 12):
            told[self.check(one, other, sayings)] += 1
        self.assertGreater(min(told.values()), 200)

    def test_larger_programs(self):
        told = {Alike: 0, Apart: 0}
        for one, other, sayings in pairs_of_programs(282, 150, 30):
            told[self.check(one, other, sayings)] += 1
        self.assertGreater(min(told.values()), 20)

    def test_the_order_of_the_two_and_of_the_sayings(self):
        for one, other, sayings in pairs_of_programs(283, 200, 10):
            told = judged(one, other, sayings)
            turned = judged(other, one, list(reversed(sayings)))
            self.assertIs(type(told), type(turned))
            if isinstance(told, Alike):
                self.assertEqual(sorted((b, a, mask) for a, b, mask in told.table), turned.table)
            else:
                self.assertEqual(len(told.deeds), len(turned.deeds))


class RunsTest(unittest.TestCase):
    def test_alike_runs_alike(self):
        """Worlds of all good settings with ways by chance: they keep the sayings."""
        chance = random.Random(284)
        alike = 0
        for one, other, sayings in pairs_of_programs(285, 400, 12):
            good = sorted(plain_good(sayings))
            if not good or not isinstance(judged(one, other, sayings), Alike):
                continue
            alike += 1
            for _ in range(3):
                leads = {deed: [
                    good.index(chance.choice(sorted(plain_later(sayings, good, deed, setting)))) for setting in good
                ] for deed in DEEDS}
                world = listed_world(good, leads)
                for state in range(len(good)):
                    self.assertEqual(run_from(one, world, state, 40), run_from(other, world, state, 40))
        self.assertGreater(alike, 100)


class StandsTest(unittest.TestCase):
    ONE = read_program("while a { P }")
    OTHER = read_program("while a { P ; while a { P } }")
    TABLE = [(0, 0, EVERY), (1, 1, EVERY), (1, 2, EVERY)]

    def table(self, table, told, sayings=()):
        with self.subTest(table=table):
            self.assertIs(Alike(table).stands(self.ONE, self.OTHER, list(sayings)), told)

    def test_the_table_told(self):
        self.table(self.TABLE, True)

    def test_rows_left_out(self):
        for number in range(3):
            self.table(self.TABLE[:number] + self.TABLE[number + 1:], False)
        self.table([], False)

    def test_rows_left_out_where_one_setting_is_good(self):
        for test, setting in (
            ("a or b or c or d", 0), ("not a or b or c or d", 1), ("not ( a and b and c and d )", 15),
        ):
            sayings = sayings_of("nowhere " + test)
            table = [(0, 0, 1 << setting), (1, 1, 1 << setting)]
            self.assertEqual(judged(P, P, sayings).table, table)
            for changed, told in (
                (table, True), (table[:1], False), (table[1:], False), ([], False), ([(0, 0, 0)] + table[1:], False),
                (table[:1] + [(1, 1, 0)], False), (table[:1] + [(1, 1, EVERY - (1 << setting))], False),
            ):
                self.assertIs(Alike(changed).stands(P, P, sayings), told, changed)

    def test_masks_with_a_setting_fewer(self):
        for number in range(3):
            for setting in range(16):
                row = self.TABLE[number]
                changed = (row[0], row[1], row[2] - (1 << setting))
                self.table(self.TABLE[:number] + [changed] + self.TABLE[number + 1:], False)

    def test_rooms_that_are_none(self):
        for row in (
            (2, 0, 0), (0, 3, 0), (-1, 0, 0), (0, -1, 0), (2, 2, EVERY), (1, 3, EVERY), (-1, -1, EVERY), (-2, 0, 1),
            (10 ** 20, 0, 0), (0, -(10 ** 20), 1), (1, -2, EVERY), (-1, 1, EVERY),
        ):
            self.table(self.TABLE + [row], False)
            self.table([row] + self.TABLE, False)

    def test_masks_beyond(self):
        for mask in (-1, 65536, 65537, 131071, -65536, 10 ** 20):
            self.table(self.TABLE + [(1, 1, mask)], False)
            self.table([(0, 0, mask)] + self.TABLE[1:], False)
            self.table([(1, 0, mask)] + self.TABLE, False)

    def test_rows_doubled_parted_or_in_another_order(self):
        self.table(self.TABLE + self.TABLE, True)
        self.table(list(reversed(self.TABLE)), True)
        parted = [(one, other, part) for one, other, _ in self.TABLE for part in (21845, 43690)]
        self.table(parted, True)
        self.table(list(reversed(parted)), True)
        for number in range(len(parted)):
            self.table(parted[:number] + parted[number + 1:], False)
        single = [(one, other, 1 << setting) for one, other, _ in self.TABLE for setting in range(16)]
        self.table(single, True)
        self.table(single[1:], False)
        self.table(single[:-1], False)
        self.table(self.TABLE + [(1, 0, 0), (0, 1, 0)], True)

    def test_masks_with_more_settings(self):
        # Further pairs, that are closed themselves, do no harm; unlike doors do.
        one = read_program("if a { P } else { Q }")
        other = read_program("if a { P } else { Q }")
        good = [(0, 0, EVERY), (1, 1, EVERY), (2, 2, EVERY)]
        for row, told in (
            ((1, 2, EVERY), True), ((2, 1, 7), True), ((0, 1, 0), True), ((0, 1, 1), False), ((1, 0, EVERY), False),
        ):
            self.assertIs(Alike(good + [row]).stands(one, other, []), told, row)

    def test_settings_that_are_not_good_say_nothing(self):
        sayings = sayings_of("nowhere b")
        told = judged(self.ONE, self.OTHER, sayings)
        self.assertEqual([row[2] for row in told.table], [13107] * 3)
        self.table(told.table, True, sayings)
        self.table(self.TABLE, True, sayings)
        self.table([(0, 1, 52428)] + self.TABLE, True, sayings)
        one = read_program("if b { P } else { Q }")
        other = read_program("Q")
        for mask in (13107, 65535, 13107 + 4):
            self.assertIs(Alike([(0, 0, mask), (2, 1, 13107)]).stands(one, other, sayings), True)
        self.assertIs(Alike([(0, 0, 13107 - 1), (2, 1, 13107)]).stands(one, other, sayings), False)

    def test_no_setting_good(self):
        for sayings in (sayings_of("nowhere yes"), sayings_of("behind P : yes : no")):
            for one, other in ((P, Q), (Skip(), Stop()), (P, P)):
                for table, told in (
                    ([], True), ([(0, 0, 0)], True), ([(0, 0, EVERY)], True), ([(0, 0, 5), (0, 0, 5)], True),
                    ([(2, 0, 0)], False), ([(0, -1, 0)], False), ([(0, 0, 65536)], False), ([(0, 0, -1)], False),
                    ([(0, 5, 1)], False),
                ):
                    self.assertIs(Alike(table).stands(one, other, sayings), told, table)
                self.assertIs(Apart([0], "").stands(one, other, sayings), False)

    def test_a_table_for_other_programs_or_sayings(self):
        self.assertIs(Alike(self.TABLE).stands(self.OTHER, self.ONE, []), False)
        self.assertIs(Alike(self.TABLE).stands(self.ONE, P, []), False)
        told = judged(read_program("if a { P }"), P, sayings_of("nowhere not a"))
        self.assertIs(told.stands(read_program("if a { P }"), P, sayings_of("nowhere not a")), True)
        self.assertIs(told.stands(read_program("if a { P }"), P, []), False)

    def test_words(self):
        one = read_program("P ; Q ; if a { R } else { S }")
        other = read_program("P ; Q ; R")
        for settings, deeds, told in (
            ([0, 0, 0], "PQ", True), ([5, 3, 2], "PQ", True), ([15, 15, 14], "PQ", True),
            ([0, 0, 1], "PQ", False), ([0, 0], "PQ", False), ([0, 0, 0, 0], "PQ", False), ([0, 0, 0], "P", False),
            ([0, 0], "P", False), ([0], "", False), ([], "", False), ([], "P", False), ([0, 0, 0], "PQR", False),
            ([0, 0, 0, 0], "PQS", False), ([0, 0, 0, 0], "PQR", False), ([0, 0, 0], "QP", False),
            ([0, 0, 0], "PP", False), ([0, 0, 0], "pq", False), ([0, 0, 0], "Px", False), ([0, 0, 0], "P ", False),
            ([0, 0, 16], "PQ", False), ([0, 0, -2], "PQ", False), ([16, 0, 0], "PQ", False), ([-1, 0, 0], "PQ", False),
            ([0, 10 ** 20, 0], "PQ", False), ([0, -1, 0], "PQ", False), ([0, 0, -16], "PQ", False),
            ([0, 0, 0], "\n\n", False), ([0, 0, 0], "P\u0420", False), ([0, 0, 0], "", False), ([0], "PQ", False),
        ):
            with self.subTest(settings=settings, deeds=deeds):
                self.assertIs(Apart(settings, deeds).stands(one, other, []), told)

    def test_words_without_letters(self):
        for setting in range(-20, 40):
            told = setting in range(16) and setting & 1 == 0
            self.assertIs(Apart([setting], "").stands(read_program("if a { P }"), P, []), told)
        self.assertIs(Apart([0], "").stands(P, P, []), False)
        self.assertIs(Apart([0], "").stands(Skip(), Stop(), []), True)

    def test_words_longer_than_the_shortest(self):
        one = read_program("while a { P }")
        other = read_program("while a { P ; if b { Q } }")
        for letters in range(1, 60):
            settings = [1] * letters + [3]
            self.assertIs(Apart(settings, "P" * letters).stands(one, other, []), True)
            self.assertIs(Apart([1] * letters + [1], "P" * letters).stands(one, other, []), False)
            self.assertIs(Apart([1] * letters + [3], "P" * (letters - 1) + "Q").stands(one, other, []), False)
            # Behind b the one goes on where the other does Q.
            self.assertIs(Apart([1] * letters + [3, 3], "P" * letters + "P").stands(one, other, []), False)
        settings = [1] * 5000 + [2]
        self.assertIs(Apart(settings, "P" * 5000).stands(one, other, []), True)

    def test_words_under_sayings(self):
        one = read_program("while a { P }")
        other = read_program("while a { P ; if b { Q } }")
        sayings = sayings_of("behind P : not c : not b", "nowhere d", "behind T : a and b : no")
        for settings, deeds, told in (
            ([5, 2], "P", True), ([5, 6], "P", True), ([5, 7], "P", False), ([5, 3], "P", False), ([1, 2], "P", False),
            ([1, 5, 2], "PP", True), ([1, 1, 5, 6], "PPP", True), ([13, 2], "P", False), ([5, 10], "P", False),
            ([1, 13, 2], "PP", False), ([7, 2], "P", False), ([3, 2], "P", False),
        ):
            with self.subTest(settings=settings):
                self.assertIs(Apart(settings, deeds).stands(one, other, sayings), told)
                self.assertIs(Plain(one, other, sayings).is_word(settings, deeds), told)

    def test_the_base_class_does_not_stand(self):
        self.assertIs(Verdict().stands(P, P, []), False)
        self.assertIs(Verdict().stands(P, Q, []), False)
        self.assertIs(Verdict().stands(P, Q, [Nowhere(Yes())]), False)

    def test_lists_handed_in_changed_later(self):
        table = list(self.TABLE)
        alike = Alike(table)
        table.clear()
        self.assertEqual(alike.table, self.TABLE)
        self.assertIs(alike.stands(self.ONE, self.OTHER, []), True)
        settings = [1, 0]
        apart = Apart(settings, "P")
        self.assertIs(apart.stands(P, Row(P, Choice(C, Stop(), Skip())), []), False)
        self.assertIs(apart.stands(P, Row(P, Q), []), True)
        settings.append(7)
        settings[0] = 99
        self.assertEqual(apart.settings, [1, 0])
        self.assertIs(apart.stands(P, Row(P, Q), []), True)

    def test_asking_changes_nothing(self):
        alike = Alike(self.TABLE)
        sayings = sayings_of("nowhere b")
        for _ in range(2):
            self.assertIs(alike.stands(self.ONE, self.OTHER, sayings), True)
            self.assertEqual(alike.table, self.TABLE)
        self.assertEqual([saying.text() for saying in sayings], ["nowhere b"])


class ChangedTest(unittest.TestCase):
    """Answers told and then changed by chance, held against [30] word by word."""

    def test_tables(self):
        chance = random.Random(301)
        counts = {True: 0, False: 0}
        for one, other, sayings in pairs_of_programs(302, 500, 10):
            plain = Plain(one, other, sayings)
            # Also of programs that are apart, whatever is no table of them.
            table = plain.table()
            for _ in range(6):
                changed = self.changed(chance, list(table), len(plain.one), len(plain.other))
                told = Alike(changed).stands(one, other, sayings)
                self.assertIs(told, plain.is_table(changed), (one.text(), other.text(), changed))
                counts[told] += 1
        self.assertGreater(min(counts.values()), 300)

    def changed(self, chance, table, rooms, others):
        for _ in range(chance.randint(0, 2)):
            number = chance.randrange(len(table)) if table else 0
            row = table[number] if table else (0, 0, 0)
            turn = chance.randrange(8)
            if turn == 0 and table:
                table.pop(number)
            elif turn == 1:
                table[number:number + 1] = [(row[0], row[1], row[2] & ~(1 << chance.randrange(16)))]
            elif turn == 2:
                table[number:number + 1] = [(row[0], row[1], row[2] | 1 << chance.randrange(16))]
            elif turn == 3:
                table.append((chance.randint(-1, rooms), chance.randint(-1, others), 0))
            elif turn == 4:
                part = chance.randrange(65536)
                table[number:number + 1] = [(row[0], row[1], row[2] & part), (row[0], row[1], row[2] & ~part)]
            elif turn == 5:
                chance.shuffle(table)
            elif turn == 6:
                table.append(row)
            else:
                table.append((chance.randrange(rooms), chance.randrange(others), 1 << chance.randrange(16)))
        return table

    def test_words(self):
        chance = random.Random(303)
        counts = {True: 0, False: 0}
        for one, other, sayings in pairs_of_programs(304, 1500, 10):
            told = judged(one, other, sayings)
            if isinstance(told, Alike):
                settings, deeds = [chance.randrange(16) for _ in range(3)], "PQ"
            else:
                settings, deeds = told.settings, told.deeds
            plain = Plain(one, other, sayings)
            for _ in range(6):
                settings = list(settings)
                place = chance.randrange(len(settings))
                turn = chance.randrange(5)
                if turn == 0:
                    settings[place] = chance.randint(-1, 16)
                elif turn == 1:
                    settings.insert(place, chance.randrange(16))
                    deeds = deeds[:place] + chance.choice("PQRST") + deeds[place:]
                elif turn == 2 and len(settings) > 1:
                    settings.pop(place)
                elif turn == 3:
                    deeds = deeds[:place] + chance.choice("PQx")
                stood = Apart(settings, deeds).stands(one, other, sayings)
                self.assertIs(stood, plain.is_word(settings, deeds), (one.text(), other.text(), settings, deeds))
                counts[stood] += 1
                if stood is False and not isinstance(told, Alike):
                    settings, deeds = told.settings, told.deeds
        self.assertGreater(min(counts.values()), 300)


class LargeTest(unittest.TestCase):
    def test_many_triples(self):
        # Twelve deeds on both sides, and every pair of rooms is come to.
        one = read_program("while yes { " + " ; ".join(["P"] * 12) + " }")
        other = read_program("while yes { " + " ; ".join(["P"] * 11) + " }")
        told = judged(one, other, [])
        self.assertEqual(len(told.table), 1 + 12 * 11)
        self.assertIs(told.stands(one, other, []), True)

    def test_a_long_shortest_word(self):
        # P counts the settings up by one; both begin at 0, and stop at 15 behind an 11th or a 12th deed alone.
        counting = sayings_of(
            "behind P : not a : a", "behind P : a : not a",
            "behind P : a and not b or not a and b : b", "behind P : not ( a and not b or not a and b ) : not b",
            "behind P : a and b and not c or not ( a and b ) and c : c",
            "behind P : not ( a and b and not c or not ( a and b ) and c ) : not c",
            "behind P : a and b and c and not d or not ( a and b and c ) and d : d",
            "behind P : not ( a and b and c and not d or not ( a and b and c ) and d ) : not d",
        )
        self.assertEqual(len(counting), 8)
        one, other = [read_program(
            "if a or b or c or d { stop } ; while yes { " + "P ; " * deeds + "if a and b and c and d { stop } }"
        ) for deeds in (11, 12)]
        told = judged(one, other, counting)
        # 143 is the first 11 * k that leaves 15 by 16.
        self.assertEqual(told.deeds, "P" * 143)
        self.assertEqual(told.settings, [number % 16 for number in range(144)])
        self.assertIs(told.stands(one, other, counting), True)
        self.assertEqual(Plain(one, other, counting).shortest(), 143)

    def test_largest_programs(self):
        for one, other in zip(some_steps(291, 25, 120), some_steps(292, 25, 120)):
            for pair in ((one, other), (one, Row(Skip(), one)), (one, Choice(A, one, one))):
                if len(pair[1].letters()) <= 12:
                    told = judged(pair[0], pair[1], [])
                    self.assertIs(told.stands(pair[0], pair[1], []), True)

    def test_masks_of_rows(self):
        told = judged(read_program("P ; Q"), read_program("P ; Q"), sayings_of("behind P : yes : a and b"))
        self.assertEqual(told.table, [(0, 0, EVERY), (1, 1, mask_of([3, 7, 11, 15])), (2, 2, EVERY)])
