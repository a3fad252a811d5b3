"""[2], [8], [9], [10] and the own text of [13]: programs."""

import unittest

from anymeaning.signs import Both, Either, No, Not, Yes
from anymeaning.steps import Choice, Deed, Loop, Row, Skip, Step, Stop
from tests.helper import A, B, C, D, DEEDS, P, Q, R, SETTINGS, all_of, play, shape, steps_by_size

KINDS = (Skip, Stop, Deed, Row, Choice, Loop)

DONE = ("done", None)
STOPPED = ("stopped", None)
HUNG = ("hung", None)

A_HOLDS = (1, 3, 5, 7, 9, 11, 13, 15)
B_HOLDS = (2, 3, 6, 7, 10, 11, 14, 15)


def told_shape(told):
    what, left = told
    return (what, None if left is None else shape(left))


def small_steps():
    return all_of(steps_by_size([Skip(), Stop(), P, Q], [A, B], 5))


class KindsTest(unittest.TestCase):
    def test_kinds_stand_under_the_base_and_not_under_another(self):
        for one in KINDS:
            self.assertTrue(issubclass(one, Step))
            self.assertIsNot(one, Step)
            for other in KINDS:
                with self.subTest(one=one.__name__, other=other.__name__):
                    self.assertEqual(issubclass(one, other), one.__name__ == other.__name__)

    def test_fields_are_what_was_handed_in(self):
        for name in DEEDS:
            self.assertEqual(Deed(name).name, name)
        row = Row(P, Q)
        self.assertIs(row.head, P)
        self.assertIs(row.tail, Q)
        choice = Choice(A, P, Q)
        self.assertIs(choice.test, A)
        self.assertIs(choice.yes, P)
        self.assertIs(choice.no, Q)
        loop = Loop(A, P)
        self.assertIs(loop.test, A)
        self.assertIs(loop.body, P)

    def test_arguments_by_name(self):
        self.assertEqual(shape(Deed(name="T")), ("Deed", "T"))
        self.assertEqual(shape(Row(tail=Q, head=P)), shape(Row(P, Q)))
        self.assertEqual(shape(Choice(no=Q, yes=P, test=A)), shape(Choice(A, P, Q)))
        self.assertEqual(shape(Loop(body=P, test=A)), shape(Loop(A, P)))


class FirstTest(unittest.TestCase):
    def check(self, step, told, settings=SETTINGS):
        for setting in settings:
            with self.subTest(step=step.text(), setting=setting):
                answer = step.first(setting)
                self.assertIs(type(answer), tuple)
                self.assertEqual(len(answer), 2)
                self.assertEqual(told_shape(answer), told_shape(told))

    def check_at(self, step, at):
        """At each setting by whether a, and whether b, holds there."""
        for setting in SETTINGS:
            self.check(step, at[(setting in A_HOLDS, setting in B_HOLDS)], [setting])

    def test_skip_stop_and_deeds(self):
        self.check(Skip(), DONE)
        self.check(Stop(), STOPPED)
        for name in DEEDS:
            self.check(Deed(name), (name, Skip()))

    def test_row_whose_head_does_a_deed(self):
        self.check(Row(P, Q), ("P", Row(Skip(), Q)))
        self.check(Row(P, Skip()), ("P", Row(Skip(), Skip())))
        self.check(Row(P, Stop()), ("P", Row(Skip(), Stop())))
        self.check(Row(Row(P, Q), R), ("P", Row(Row(Skip(), Q), R)))
        self.check(Row(P, Row(Q, R)), ("P", Row(Skip(), Row(Q, R))))

    def test_the_documents_row(self):
        what, left = Row(P, Q).first(0)
        self.assertEqual(what, "P")
        self.assertEqual(left.text(), "skip ; Q")

    def test_row_whose_head_is_done(self):
        self.check(Row(Skip(), Q), ("Q", Skip()))
        self.check(Row(Skip(), Row(Q, R)), ("Q", Row(Skip(), R)))
        self.check(Row(Row(Skip(), P), Q), ("P", Row(Skip(), Q)))
        self.check(Row(Row(Skip(), Skip()), Q), ("Q", Skip()))
        self.check(Row(Skip(), Skip()), DONE)
        self.check(Row(Skip(), Stop()), STOPPED)
        self.check(Row(Skip(), Loop(Yes(), Skip())), HUNG)
        self.check(Row(Loop(No(), P), Q), ("Q", Skip()))

    def test_row_whose_head_ends_otherwise(self):
        self.check(Row(Stop(), Q), STOPPED)
        self.check(Row(Stop(), Skip()), STOPPED)
        self.check(Row(Loop(Yes(), Skip()), Q), HUNG)
        self.check(Row(Loop(Yes(), Skip()), Stop()), HUNG)
        self.check(Row(Row(Stop(), P), Q), STOPPED)
        self.check(Row(Row(Skip(), Stop()), Q), STOPPED)

    def test_choice(self):
        self.check_at(Choice(A, P, Q), {
            (True, True): ("P", Skip()), (True, False): ("P", Skip()),
            (False, True): ("Q", Skip()), (False, False): ("Q", Skip()),
        })
        self.check_at(Choice(A, Choice(B, P, Stop()), Row(Q, R)), {
            (True, True): ("P", Skip()), (True, False): STOPPED,
            (False, True): ("Q", Row(Skip(), R)), (False, False): ("Q", Row(Skip(), R)),
        })
        self.check_at(Choice(Both(A, B), Loop(Yes(), Skip()), Skip()), {
            (True, True): HUNG, (True, False): DONE, (False, True): DONE, (False, False): DONE,
        })

    def test_choice_by_every_kind_of_test(self):
        for test in (Yes(), No(), A, B, C, D, Not(C), Both(C, D), Either(A, D)):
            for setting in SETTINGS:
                self.check(Choice(test, P, Q), ("P" if test.holds(setting) else "Q", Skip()), [setting])

    def test_row_with_choices(self):
        self.check_at(Row(Choice(A, P, Skip()), Choice(B, Q, Stop())), {
            (True, True): ("P", Row(Skip(), Choice(B, Q, Stop()))),
            (True, False): ("P", Row(Skip(), Choice(B, Q, Stop()))),
            (False, True): ("Q", Skip()),
            (False, False): STOPPED,
        })

    def test_loop_whose_body_does_a_deed(self):
        loop = Loop(A, P)
        again = ("P", Row(Skip(), loop))
        self.check_at(loop, {(True, True): again, (True, False): again, (False, True): DONE, (False, False): DONE})
        long_loop = Loop(B, Row(P, Q))
        again = ("P", Row(Row(Skip(), Q), long_loop))
        self.check_at(long_loop, {
            (True, True): again, (True, False): DONE, (False, True): again, (False, False): DONE,
        })

    def test_loop_whose_body_is_done_first(self):
        self.check(Loop(Yes(), Skip()), HUNG)
        self.check(Loop(Yes(), Row(Skip(), Skip())), HUNG)
        self.check(Loop(No(), Skip()), DONE)
        self.check_at(Loop(A, Skip()), {
            (True, True): HUNG, (True, False): HUNG, (False, True): DONE, (False, False): DONE,
        })
        loop = Loop(A, Choice(B, P, Skip()))
        self.check_at(loop, {
            (True, True): ("P", Row(Skip(), loop)), (True, False): HUNG, (False, True): DONE, (False, False): DONE,
        })

    def test_loop_whose_body_ends_otherwise(self):
        self.check(Loop(Yes(), Stop()), STOPPED)
        self.check(Loop(No(), Stop()), DONE)
        self.check(Loop(Yes(), Loop(Yes(), Skip())), HUNG)
        self.check(Loop(Yes(), Loop(Yes(), Stop())), STOPPED)
        self.check_at(Loop(A, Choice(B, Stop(), Skip())), {
            (True, True): STOPPED, (True, False): HUNG, (False, True): DONE, (False, False): DONE,
        })

    def test_loops_within_loops(self):
        inner = Loop(B, P)
        outer = Loop(A, inner)
        self.check_at(outer, {
            (True, True): ("P", Row(Row(Skip(), inner), outer)),
            (True, False): HUNG,
            (False, True): DONE,
            (False, False): DONE,
        })
        mixed = Loop(A, Row(inner, Q))
        self.check_at(mixed, {
            (True, True): ("P", Row(Row(Row(Skip(), inner), Q), mixed)),
            (True, False): ("Q", Row(Skip(), mixed)),
            (False, True): DONE,
            (False, False): DONE,
        })
        third = Loop(Yes(), outer)
        self.check_at(third, {
            (True, True): ("P", Row(Row(Row(Skip(), inner), outer), third)),
            (True, False): HUNG,
            (False, True): HUNG,
            (False, False): HUNG,
        })

    def test_loop_in_a_row(self):
        loop = Loop(A, P)
        again = ("P", Row(Row(Skip(), loop), Q))
        behind = ("Q", Skip())
        self.check_at(Row(loop, Q), {
            (True, True): again, (True, False): again, (False, True): behind, (False, False): behind,
        })
        self.check(Row(Q, loop), ("Q", Row(Skip(), loop)))

    def test_what_is_left_of_what_is_left(self):
        loop = Loop(A, Row(P, Q))
        left = loop.first(1)[1]
        self.assertEqual(shape(left), shape(Row(Row(Skip(), Q), loop)))
        self.check(left, ("Q", Row(Skip(), loop)))
        behind = left.first(0)[1]
        self.check_at(behind, {
            (True, True): ("P", Row(Row(Skip(), Q), loop)), (True, False): ("P", Row(Row(Skip(), Q), loop)),
            (False, True): DONE, (False, False): DONE,
        })

    def test_left_is_none_just_where_there_is_no_deed(self):
        for step in small_steps():
            for setting in (0, 1, 2, 3):
                what, left = step.first(setting)
                if what in ("done", "stopped", "hung"):
                    self.assertIsNone(left)
                else:
                    self.assertIn(what, ("P", "Q"))
                    self.assertIsInstance(left, Step)


def played(step, settings):
    """The deeds and the end by the interpreter, `more` where the settings are used up."""
    now = {"setting": settings[0], "deeds": 0}
    player = play(step, now)
    deeds = ""
    try:
        for setting in settings[1:]:
            deeds += next(player)
            now["setting"] = setting
        deeds += next(player)
    except StopIteration as ended:
        return (deeds, ended.value)
    return (deeds, "more")


def stepped(step, settings):
    """The same by what is done first, again and again."""
    deeds = ""
    for setting in settings:
        what, left = step.first(setting)
        if left is None:
            return (deeds, what)
        deeds += what
        step = left
    return (deeds, "more")


class RunsTest(unittest.TestCase):
    def test_small_programs_against_an_interpreter(self):
        rows = (
            (0, 1, 2, 3, 0, 1), (1, 1, 0, 1, 2), (2, 3, 3, 1, 0), (3, 3, 3, 3, 3), (1, 3, 2, 0), (3, 1, 3, 0, 3),
            (3, 2, 3, 1, 2),
        )
        for step in small_steps():
            for settings in rows:
                self.assertEqual(stepped(step, settings), played(step, settings), (step.text(), settings))

    def test_larger_programs_against_an_interpreter(self):
        parts = [P, Q, Loop(A, P), Choice(B, Q, Stop()), Loop(B, Row(Choice(A, P, Skip()), Q)), Choice(C, R, Skip())]
        for one in parts:
            for two in parts:
                for three in parts:
                    for step in (
                        Loop(D, Row(Row(one, two), three)),
                        Row(Loop(Either(A, D), Row(one, Choice(B, two, three))), R),
                        Loop(Not(C), Loop(D, Row(one, Loop(Not(A), Row(two, three))))),
                    ):
                        for begin in SETTINGS:
                            settings = [(begin + 7 * k * k) % 16 for k in range(12)]
                            self.assertEqual(
                                stepped(step, settings), played(step, settings), (step.text(), settings)
                            )


class LettersTest(unittest.TestCase):
    def check(self, rows):
        for step, letters in rows:
            with self.subTest(step=step.text()):
                self.assertEqual(step.letters(), letters)

    def test_without_deeds(self):
        self.check([
            (Skip(), ""), (Stop(), ""), (Row(Skip(), Stop()), ""), (Choice(A, Skip(), Stop()), ""),
            (Loop(A, Skip()), ""),
        ])

    def test_deeds(self):
        self.check([(Deed(name), name) for name in DEEDS])

    def test_reading_order(self):
        self.check([
            (Row(P, Q), "PQ"), (Row(Q, P), "QP"), (Row(P, P), "PP"),
            (Choice(A, P, Q), "PQ"), (Choice(Not(A), Q, P), "QP"), (Choice(No(), P, Q), "PQ"),
            (Choice(Yes(), P, Q), "PQ"), (Choice(A, Skip(), P), "P"), (Choice(A, P, Stop()), "P"),
            (Loop(A, P), "P"), (Loop(No(), Row(Q, P)), "QP"),
            (Row(Row(R, Q), P), "RQP"), (Row(R, Row(Q, P)), "RQP"), (Row(Stop(), P), "P"),
            (Row(Choice(A, Loop(B, Row(P, Deed("T"))), Q), Row(R, Choice(C, Deed("S"), P))), "PTQRSP"),
        ])

    def test_letters_of_what_is_left(self):
        loop = Loop(A, Row(P, Q))
        self.assertEqual(loop.first(1)[1].letters(), "QPQ")


class TextTest(unittest.TestCase):
    def check(self, rows):
        for step, text in rows:
            with self.subTest(text=text):
                self.assertEqual(step.text(), text)

    def test_single_words(self):
        self.check([(Skip(), "skip"), (Stop(), "stop")] + [(Deed(name), name) for name in DEEDS])

    def test_head_of_a_row(self):
        self.check([
            (Row(Skip(), P), "skip ; P"),
            (Row(Stop(), P), "stop ; P"),
            (Row(Q, P), "Q ; P"),
            (Row(Row(Q, R), P), "Q ; R ; P"),
            (Row(Choice(A, Q, R), P), "if a { Q } else { R } ; P"),
            (Row(Choice(A, Q, Skip()), P), "if a { Q } ; P"),
            (Row(Loop(A, Q), P), "while a { Q } ; P"),
        ])

    def test_tail_of_a_row(self):
        self.check([
            (Row(P, Skip()), "P ; skip"),
            (Row(P, Stop()), "P ; stop"),
            (Row(P, Q), "P ; Q"),
            (Row(P, Row(Q, R)), "P ; { Q ; R }"),
            (Row(P, Choice(A, Q, R)), "P ; if a { Q } else { R }"),
            (Row(P, Choice(A, Q, Skip())), "P ; if a { Q }"),
            (Row(P, Loop(A, Q)), "P ; while a { Q }"),
        ])

    def test_yes_of_a_choice(self):
        self.check([
            (Choice(A, Skip(), P), "if a { skip } else { P }"),
            (Choice(A, Stop(), P), "if a { stop } else { P }"),
            (Choice(A, Q, P), "if a { Q } else { P }"),
            (Choice(A, Row(Q, R), P), "if a { Q ; R } else { P }"),
            (Choice(A, Choice(B, Q, R), P), "if a { if b { Q } else { R } } else { P }"),
            (Choice(A, Choice(B, Q, Skip()), P), "if a { if b { Q } } else { P }"),
            (Choice(A, Loop(B, Q), P), "if a { while b { Q } } else { P }"),
        ])

    def test_no_of_a_choice(self):
        self.check([
            (Choice(A, P, Skip()), "if a { P }"),
            (Choice(A, P, Stop()), "if a { P } else { stop }"),
            (Choice(A, P, Q), "if a { P } else { Q }"),
            (Choice(A, P, Row(Q, R)), "if a { P } else { Q ; R }"),
            (Choice(A, P, Row(Skip(), Skip())), "if a { P } else { skip ; skip }"),
            (Choice(A, P, Choice(B, Q, R)), "if a { P } else { if b { Q } else { R } }"),
            (Choice(A, P, Choice(B, Skip(), Skip())), "if a { P } else { if b { skip } }"),
            (Choice(A, P, Loop(B, Skip())), "if a { P } else { while b { skip } }"),
            (Choice(A, Skip(), Skip()), "if a { skip }"),
        ])

    def test_body_of_a_loop(self):
        self.check([
            (Loop(A, Skip()), "while a { skip }"),
            (Loop(A, Stop()), "while a { stop }"),
            (Loop(A, P), "while a { P }"),
            (Loop(A, Row(P, Q)), "while a { P ; Q }"),
            (Loop(A, Row(P, Row(Q, R))), "while a { P ; { Q ; R } }"),
            (Loop(A, Choice(B, P, Q)), "while a { if b { P } else { Q } }"),
            (Loop(A, Choice(B, P, Skip())), "while a { if b { P } }"),
            (Loop(A, Loop(B, P)), "while a { while b { P } }"),
        ])

    def test_rows_of_rows(self):
        self.check([
            (Row(Row(P, Q), Row(Q, R)), "P ; Q ; { Q ; R }"),
            (Row(P, Row(Row(Q, R), P)), "P ; { Q ; R ; P }"),
            (Row(P, Row(Q, Row(R, P))), "P ; { Q ; { R ; P } }"),
            (Row(Row(P, Row(Q, R)), P), "P ; { Q ; R } ; P"),
            (Row(P, Loop(A, Row(Q, R))), "P ; while a { Q ; R }"),
        ])

    def test_tests_by_their_own_texts(self):
        for test, text in (
            (Yes(), "yes"), (No(), "no"), (D, "d"), (Not(A), "not a"), (Both(A, B), "a and b"),
            (Either(A, B), "a or b"), (Both(A, Either(B, C)), "a and ( b or c )"),
            (Not(Both(A, B)), "not ( a and b )"),
        ):
            self.check([
                (Choice(test, P, Q), "if " + text + " { P } else { Q }"),
                (Choice(test, P, Skip()), "if " + text + " { P }"),
                (Loop(test, P), "while " + text + " { P }"),
            ])

    def test_the_documents_programs(self):
        self.check([
            (Row(P, Row(Q, R)), "P ; { Q ; R }"),
            (Choice(A, Skip(), P), "if a { skip } else { P }"),
            (Row(Row(P, Q), R), "P ; Q ; R"),
            (Loop(A, Row(P, Choice(B, Q, Skip()))), "while a { P ; if b { Q } }"),
        ])

    def test_no_two_small_programs_have_one_text(self):
        steps = small_steps()
        self.assertEqual(len({step.text() for step in steps}), len({shape(step) for step in steps}))


class SharedTest(unittest.TestCase):
    def test_one_program_in_several_places(self):
        loop = Loop(A, P)
        step = Row(Row(loop, loop), Choice(B, loop, loop))
        before = shape(step)
        self.assertEqual(step.letters(), "PPPP")
        self.assertEqual(
            step.text(), "while a { P } ; while a { P } ; if b { while a { P } } else { while a { P } }"
        )
        self.assertEqual(told_shape(step.first(0)), DONE)
        what, left = step.first(1)
        self.assertEqual(what, "P")
        self.assertEqual(shape(left), shape(Row(Row(Row(Skip(), loop), loop), Choice(B, loop, loop))))
        self.assertEqual(shape(step), before)

    def test_one_deed_in_several_places(self):
        step = Row(Row(P, P), P)
        self.assertEqual(stepped(step, [0] * 9), ("PPP", "done"))
        self.assertEqual(stepped(Row(step, step), [0] * 9), ("PPPPPP", "done"))
        self.assertEqual(shape(P), ("Deed", "P"))

    def test_one_test_in_several_places(self):
        test = Either(A, B)
        step = Row(Choice(test, P, Q), Loop(test, Choice(test, R, Stop())))
        self.assertEqual(step.text(), "if a or b { P } else { Q } ; while a or b { if a or b { R } else { stop } }")
        self.assertEqual(stepped(step, (2, 1, 2, 4, 3)), ("PRR", "done"))

    def test_nothing_is_changed_and_the_same_is_told_again(self):
        for step in small_steps():
            before = shape(step)
            told = [told_shape(step.first(setting)) for setting in (0, 1, 2, 3)]
            words = (step.text(), step.letters())
            again = [told_shape(step.first(setting)) for setting in (0, 1, 2, 3)]
            self.assertEqual(told, again)
            self.assertEqual(words, (step.text(), step.letters()))
            self.assertEqual(shape(step), before)


class BoundsTest(unittest.TestCase):
    """Programs as large as [8] lets them be."""

    def test_twelve_deeds_in_one_row(self):
        names = "PQRSTPQRSTPQ"
        left_first = Deed(names[0])
        for name in names[1:]:
            left_first = Row(left_first, Deed(name))
        right_first = Deed(names[-1])
        for name in reversed(names[:-1]):
            right_first = Row(Deed(name), right_first)
        for step in (left_first, right_first):
            self.assertEqual(step.letters(), names)
            self.assertEqual(stepped(step, [0] * 20), (names, "done"))
        self.assertEqual(left_first.text(), " ; ".join(names))
        self.assertEqual(right_first.text(), " ; { ".join(names[:-1]) + " ; Q" + " }" * 10)

    def test_rows_of_skips(self):
        left_first = P
        right_first = P
        for _ in range(59):
            left_first = Row(left_first, Skip())
            right_first = Row(Skip(), right_first)
        self.assertEqual(stepped(left_first, [0, 0]), ("P", "done"))
        self.assertEqual(stepped(right_first, [0, 0]), ("P", "done"))
        self.assertEqual(left_first.text(), "P" + " ; skip" * 59)
        self.assertEqual(right_first.text(), "skip ; { " * 58 + "skip ; P" + " }" * 58)

    def test_loops_within_loops(self):
        step = P
        loops = []
        for depth in range(119):
            step = Loop(A if depth % 2 == 0 else B, step)
            loops.append(step)
        left = Skip()
        for loop in loops:
            left = Row(left, loop)
        self.assertEqual(told_shape(step.first(3)), ("P", shape(left)))
        self.assertEqual(told_shape(step.first(1)), HUNG if step.test.holds(1) else DONE)
        self.assertEqual(step.first(0), DONE)
        self.assertEqual(step.letters(), "P")
        self.assertEqual(step.text(), "while a { " + "while b { while a { " * 59 + "P" + " }" * 119)
        self.assertEqual(stepped(step, [3] * 50), ("P" * 50, "more"))
        again = step.first(3)[1]
        self.assertEqual(again.letters(), "P" * 119)
        self.assertTrue(again.text().startswith("skip ; while a { P } ; while b { while a { P } } ; "))

    def test_choices_within_choices(self):
        step = P
        for _ in range(59):
            step = Choice(A, Stop(), step)
        self.assertEqual(told_shape(step.first(14)), ("P", ("Skip",)))
        self.assertEqual(step.first(15), STOPPED)
        self.assertEqual(step.text(), "if a { stop } else { " * 59 + "P" + " }" * 59)
