"""Programs: what they do first, their letters and their own texts."""

DEEDS = ("P", "Q", "R", "S", "T")

DONE = "done"
STOPPED = "stopped"
HUNG = "hung"
ENDS = ("done", "stopped", "hung")


def in_braces(text):
    return "{ " + text + " }"


class Step:
    """The base of the programs, not used by itself."""

    def first(self, setting):
        raise NotImplementedError("each kind of program tells what it does first")

    def letters(self):
        raise NotImplementedError("each kind of program tells its letters")

    def text(self):
        raise NotImplementedError("each kind of program tells its own text")


class Skip(Step):
    """Is done at once."""

    def first(self, setting):
        return (DONE, None)

    def letters(self):
        return ""

    def text(self):
        return "skip"


class Stop(Step):
    """Stops at once, with all that stands behind it."""

    def first(self, setting):
        return (STOPPED, None)

    def letters(self):
        return ""

    def text(self):
        return "stop"


class Deed(Step):
    """Does one deed."""

    def __init__(self, name):
        self.name = name

    def first(self, setting):
        return (self.name, Skip())

    def letters(self):
        return self.name

    def text(self):
        return self.name


class Row(Step):
    """Goes through its head, then its tail."""

    def __init__(self, head, tail):
        self.head = head
        self.tail = tail

    def first(self, setting):
        begun = self.head.first(setting)
        if begun[0] == DONE:
            return self.tail.first(setting)
        if begun[1] is None:
            return begun
        return (begun[0], Row(begun[1], self.tail))

    def letters(self):
        return self.head.letters() + self.tail.letters()

    def text(self):
        tail = self.tail.text()
        # Without braces the left `;` would go first.
        if isinstance(self.tail, Row):
            tail = in_braces(tail)
        return self.head.text() + " ; " + tail


class Choice(Step):
    """Goes on with yes where its test holds, else with no."""

    def __init__(self, test, yes, no):
        self.test = test
        self.yes = yes
        self.no = no

    def first(self, setting):
        if self.test.holds(setting):
            return self.yes.first(setting)
        return self.no.first(setting)

    def letters(self):
        return self.yes.letters() + self.no.letters()

    def text(self):
        chosen = "if " + self.test.text() + " " + in_braces(self.yes.text())
        if isinstance(self.no, Skip):
            return chosen
        return chosen + " else " + in_braces(self.no.text())


class Loop(Step):
    """Goes through its body again and again while its test holds."""

    def __init__(self, test, body):
        self.test = test
        self.body = body

    def first(self, setting):
        if not self.test.holds(setting):
            return (DONE, None)
        begun = self.body.first(setting)
        # Nothing has changed, so the body would be done so for ever.
        if begun[0] == DONE:
            return (HUNG, None)
        if begun[1] is None:
            return begun
        return (begun[0], Row(begun[1], self))

    def letters(self):
        return self.body.letters()

    def text(self):
        return "while " + self.test.text() + " " + in_braces(self.body.text())
