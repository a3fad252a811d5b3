"""What holds behind a program, wherever something held ahead of it."""

from anymeaning.bonds import Bonds
from anymeaning.mazes import FOUND, Maze
from anymeaning.rooms import Rooms
from anymeaning.signs import EVERY, is_in
from anymeaning.steps import DONE


class Finding:
    """The base of the answers; it shows nothing by itself."""

    def stands(self, before, step, after, sayings):
        return False


class Kept(Finding):
    """After holds behind: marks, a mask for each room, that are closed."""

    def __init__(self, marks):
        self.marks = list(marks)

    def stands(self, before, step, after, sayings):
        rooms = Rooms(step)
        if len(self.marks) != len(rooms.doors):
            return False
        if not all([0 <= mask <= EVERY for mask in self.marks]):
            return False
        return breaks_of(before, rooms, after, Bonds(sayings)).is_closed(dict(enumerate(self.marks)))


class Broken(Finding):
    """After need not hold behind: a word of settings and deeds that leads to where it doesn't."""

    def __init__(self, settings, deeds):
        self.settings = list(settings)
        self.deeds = deeds

    def stands(self, before, step, after, sayings):
        return breaks_of(before, Rooms(step), after, Bonds(sayings)).is_word(self.settings, self.deeds)


def marked(before, step, after, sayings):
    """A Kept or a Broken of a program, between two tests, under sayings."""
    rooms = Rooms(step)
    told = breaks_of(before, rooms, after, Bonds(sayings)).search()
    if told[1] is not None:
        return Broken(told[1][0], told[1][1])
    return Kept([told[0].get(room, 0) for room in range(len(rooms.doors))])


def breaks_of(before, rooms, after, bonds):
    """The maze of the rooms; a door that is done where after doesn't hold is sought."""
    fit = after.mask()

    def door(room, setting):
        told = rooms.doors[room][setting]
        if told[0] == DONE and not is_in(setting, fit):
            return (FOUND, room)
        return told

    return Maze(bonds, 0, bonds.good() & before.mask(), door)
