"""A desk: it keeps sayings and programs, and answers rows of words."""

from anymeaning.bonds import is_due
from anymeaning.errors import NoName, NoRow, TooMuch
from anymeaning.judge import Alike, judged
from anymeaning.marks import Kept, marked
from anymeaning.saywords import read_saying
from anymeaning.short import shorten, weight_of
from anymeaning.signwords import read_test
from anymeaning.texts import read_program

SMALL_LETTERS = "abcdefghijklmnopqrstuvwxyz"
MOST_LETTERS = 8
MOST_SAYINGS = 8
MOST_WEIGHT = 40
OK = "ok"


class Desk:
    """Keeps sayings, and programs by names."""

    def __init__(self):
        self.sayings = []
        self.programs = {}

    def say(self, row):
        if not isinstance(row, str):
            raise NoRow("a row is a text")
        parted = row.partition(" ")
        if parted[1] == "":
            raise NoRow("no blank stands behind the first word")
        return self.answer(parted[0], parted[2])

    def answer(self, word, follows):
        if word == "say":
            return self.keep_saying(follows)
        if word == "due":
            return "yes" if is_due(self.sayings, read_saying(follows)) else "no"
        if word == "let":
            return self.let_stand(follows)
        if word == "show":
            return self.show(follows)
        if word == "alike":
            return self.hold_alike(follows)
        if word == "holds":
            return self.hold_behind(follows)
        if word == "short":
            return self.make_short(follows)
        raise NoRow("another word stands first")

    def keep_saying(self, follows):
        saying = read_saying(follows)
        if len(self.sayings) == MOST_SAYINGS:
            raise TooMuch("a desk keeps at most eight sayings")
        self.sayings.append(saying)
        return OK

    def let_stand(self, follows):
        parted = follows.partition(" ")
        if parted[1] == "":
            raise NoRow("a name, a blank and a program are told")
        check_name(parted[0])
        self.programs[parted[0]] = read_program(parted[2])
        return OK

    def show(self, follows):
        check_pieces(follows.split(" "), 1)
        return self.named(follows).text()

    def hold_alike(self, follows):
        names = follows.split(" ")
        check_pieces(names, 2)
        one = self.named(names[0])
        verdict = judged(one, self.named(names[1]), self.sayings)
        if isinstance(verdict, Alike):
            return "alike"
        return "apart " + word_text(verdict.settings, verdict.deeds)

    def hold_behind(self, follows):
        pieces = follows.split(" : ")
        check_pieces(pieces, 3)
        step = self.named(pieces[0])
        before = read_test(pieces[1])
        finding = marked(before, step, read_test(pieces[2]), self.sayings)
        if isinstance(finding, Kept):
            return "kept"
        return "broken " + word_text(finding.settings, finding.deeds)

    def make_short(self, follows):
        check_pieces(follows.split(" "), 1)
        step = self.named(follows)
        if weight_of(step) > MOST_WEIGHT:
            raise TooMuch("a program to be shortened has a weight of at most forty")
        shortened = shorten(step, self.sayings)[-1]
        self.programs[follows] = shortened
        return shortened.text()

    def named(self, name):
        """The program for which a name stands."""
        check_name(name)
        if name not in self.programs:
            raise NoName("no program stands for the name")
        return self.programs[name]


def check_name(name):
    if len(name) < 1 or len(name) > MOST_LETTERS:
        raise NoName("a name has from one to eight letters")
    if not all([sign in SMALL_LETTERS for sign in name]):
        raise NoName("a name has small letters alone")


def check_pieces(pieces, number):
    if len(pieces) != number:
        raise NoRow("what follows has not the told form")


def word_text(settings, deeds):
    """A word's settings and letters in turn."""
    words = [str(settings[0])]
    for deed, setting in zip(deeds, settings[1:]):
        words.extend([deed, str(setting)])
    return " ".join(words)
