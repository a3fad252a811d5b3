"""Reads a test from its text."""

from anymeaning.errors import NoTest
from anymeaning.signs import Both, Either, LETTERS, Named, No, Not, Yes

MOST_WORDS = 40


def read_test(text):
    # Parted at the blank alone: any other sign, or a blank too many, makes a word that is none.
    words = text.split(" ")
    # Asked first, so that no text, however long, makes the reading deep.
    if len(words) > MOST_WORDS:
        raise NoTest("a test has at most forty words")
    reader = SignReader(words)
    test = reader.read_either()
    if not reader.at_end():
        raise NoTest("the test ends ahead of the text")
    return test


class WordReader:
    """Goes through words from the left; the base of the readers."""

    def __init__(self, words):
        self.words = list(words)
        self.place = 0

    def at_end(self):
        return self.place == len(self.words)

    def passes(self, word):
        """Goes behind the next word where it is this one."""
        if self.at_end() or self.words[self.place] != word:
            return False
        self.place += 1
        return True


class SignReader(WordReader):
    """Reads a test from its words."""

    def read_either(self):
        test = self.read_both()
        while self.passes("or"):
            test = Either(test, self.read_both())
        return test

    def read_both(self):
        test = self.read_single()
        while self.passes("and"):
            test = Both(test, self.read_single())
        return test

    def read_single(self):
        """Reads what a `not` takes: no `and` or `or` outside brackets."""
        for letter in LETTERS:
            if self.passes(letter):
                return Named(letter)
        if self.passes("yes"):
            return Yes()
        if self.passes("no"):
            return No()
        if self.passes("not"):
            return Not(self.read_single())
        if self.passes("("):
            return self.read_bracket()
        raise NoTest("no test begins here")

    def read_bracket(self):
        test = self.read_either()
        if not self.passes(")"):
            raise NoTest("a bracket is left without its end")
        return test
