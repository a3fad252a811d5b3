"""Reads a program from its text."""

from anymeaning.errors import NoProgram, NoTest
from anymeaning.signwords import WordReader, read_test
from anymeaning.steps import Choice, DEEDS, Deed, Loop, Row, Skip, Stop

MOST_WORDS = 120
MOST_DEEDS = 12
MOST_OPEN = 20


def read_program(text):
    # Parted at the blank alone: any other sign, or a blank too many, makes a word that is none.
    words = text.split(" ")
    # The bounds are asked first, so that no text, however long, makes the reading deep.
    check_bounds(words)
    reader = StepReader(words)
    step = reader.read_row()
    if not reader.at_end():
        raise NoProgram("the program ends ahead of the text")
    return step


def check_bounds(words):
    if len(words) > MOST_WORDS:
        raise NoProgram("a program has at most 120 words")
    if len([word for word in words if word in DEEDS]) > MOST_DEEDS:
        raise NoProgram("a program has at most twelve deeds")
    if most_open(words) > MOST_OPEN:
        raise NoProgram("at most twenty braces are open at once")


def most_open(words):
    """How many braces are open at once, where the most are."""
    most = 0
    now = 0
    for word in words:
        if word == "{":
            now += 1
        if word == "}":
            now -= 1
        most = max(most, now)
    return most


class StepReader(WordReader):
    """Reads a program from its words."""

    def read_row(self):
        step = self.read_single()
        while self.passes(";"):
            step = Row(step, self.read_single())
        return step

    def read_single(self):
        """Reads one program without a `;` outside braces."""
        for name in DEEDS:
            if self.passes(name):
                return Deed(name)
        if self.passes("skip"):
            return Skip()
        if self.passes("stop"):
            return Stop()
        if self.passes("if"):
            return self.read_choice()
        if self.passes("while"):
            test = self.read_sign()
            return Loop(test, self.read_braces())
        return self.read_braces()

    def read_choice(self):
        test = self.read_sign()
        yes = self.read_braces()
        if self.passes("else"):
            return Choice(test, yes, self.read_braces())
        return Choice(test, yes, Skip())

    def read_sign(self):
        # No test has a brace in it, so it goes up to the next one.
        begin = self.place
        while not self.at_end() and self.words[self.place] != "{":
            self.place += 1
        try:
            return read_test(" ".join(self.words[begin:self.place]))
        except NoTest:
            raise NoProgram("a test is not written as told") from None

    def read_braces(self):
        if not self.passes("{"):
            raise NoProgram("no program begins here")
        step = self.read_row()
        if not self.passes("}"):
            raise NoProgram("a brace is left without its end")
        return step
