"""What several of the tests need."""

from anymeaning.signs import Both, Either, Named, No, Not, Yes
from anymeaning.steps import Choice, Deed, Loop, Row, Skip, Stop

SETTINGS = range(16)
DEEDS = "PQRST"

FIELDS = {
    Yes: (),
    No: (),
    Named: ("name",),
    Not: ("inner",),
    Both: ("left", "right"),
    Either: ("left", "right"),
    Skip: (),
    Stop: (),
    Deed: ("name",),
    Row: ("head", "tail"),
    Choice: ("test", "yes", "no"),
    Loop: ("test", "body"),
}

A = Named("a")
B = Named("b")
C = Named("c")
D = Named("d")
P = Deed("P")
Q = Deed("Q")
R = Deed("R")


def shape(thing):
    """A test or a program as tuples of its very classes and all of its fields."""
    if isinstance(thing, str):
        return thing
    kind = type(thing)
    return (kind.__name__, *[shape(getattr(thing, field)) for field in FIELDS[kind]])


def tests_by_size(letters, most):
    """All tests over these letters of at most so many parts, a list for each number of parts."""
    sizes = [[], [Yes(), No()] + [Named(letter) for letter in letters]]
    for size in range(2, most + 1):
        found = [Not(inner) for inner in sizes[size - 1]]
        for kind in (Both, Either):
            for part in range(1, size - 1):
                found += [kind(one, two) for one in sizes[part] for two in sizes[size - 1 - part]]
        sizes.append(found)
    return sizes


def steps_by_size(leaves, tests, most):
    """All programs of these leaves and tests of at most so many parts, a list for each number of parts."""
    sizes = [[], list(leaves)]
    for size in range(2, most + 1):
        found = [Loop(test, body) for test in tests for body in sizes[size - 1]]
        for part in range(1, size - 1):
            pairs = [(one, two) for one in sizes[part] for two in sizes[size - 1 - part]]
            found += [Row(one, two) for one, two in pairs]
            found += [Choice(test, one, two) for test in tests for one, two in pairs]
        sizes.append(found)
    return sizes


def all_of(sizes):
    return [thing for same in sizes for thing in same]
