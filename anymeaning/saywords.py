"""Reads a saying from its text."""

from anymeaning.errors import NoSaying, NoTest
from anymeaning.sayings import Behind, Nowhere, Through
from anymeaning.signwords import read_test
from anymeaning.steps import DEEDS


def read_saying(text):
    parted = text.partition(" ")
    # No deed and no test has a `:` in it, so the pieces are what stands between them.
    pieces = parted[2].split(" : ")
    if parted[0] == "nowhere" and len(pieces) == 1:
        return Nowhere(read_piece(pieces[0]))
    if parted[0] == "behind" and len(pieces) == 3 and pieces[0] in DEEDS:
        before = read_piece(pieces[1])
        return Behind(before, pieces[0], read_piece(pieces[2]))
    if parted[0] == "through" and len(pieces) == 2 and pieces[0] in DEEDS:
        return Through(read_piece(pieces[1]), pieces[0])
    raise NoSaying("a saying is not written as told")


def read_piece(text):
    try:
        return read_test(text)
    except NoTest:
        raise NoSaying("a test is not written as told") from None
