"""Two programs held against each other for all worlds that keep some sayings."""

from anymeaning.bonds import Bonds
from anymeaning.mazes import FOUND, Maze
from anymeaning.rooms import Rooms
from anymeaning.signs import EVERY


class Verdict:
    """The base of the answers; it shows nothing by itself."""

    def stands(self, one, other, sayings):
        return False


class Alike(Verdict):
    """Both programs run alike: a table of all pairs of rooms to which one comes, and with which settings."""

    def __init__(self, table):
        self.table = list(table)

    def stands(self, one, other, sayings):
        rooms = Rooms(one)
        others = Rooms(other)
        masks = {}
        for row in self.table:
            if not (is_below(row[0], len(rooms.doors)) and is_below(row[1], len(others.doors))):
                return False
            if not is_below(row[2], EVERY + 1):
                return False
            # The rows of one pair count together.
            pair = (row[0], row[1])
            masks[pair] = masks.get(pair, 0) | row[2]
        return pairs_of(rooms, others, Bonds(sayings)).is_closed(masks)


class Apart(Verdict):
    """The programs part: a word of settings and deeds that leads to where they do."""

    def __init__(self, settings, deeds):
        self.settings = list(settings)
        self.deeds = deeds

    def stands(self, one, other, sayings):
        return pairs_of(Rooms(one), Rooms(other), Bonds(sayings)).is_word(self.settings, self.deeds)


def judged(one, other, sayings):
    """An Alike or an Apart of two programs under sayings."""
    return compared(Rooms(one), Rooms(other), Bonds(sayings))


def compared(rooms, others, bonds):
    told = pairs_of(rooms, others, bonds).search()
    if told[1] is not None:
        return Apart(told[1][0], told[1][1])
    return Alike(sorted([(pair[0], pair[1], mask) for pair, mask in told[0].items()]))


def pairs_of(rooms, others, bonds):
    """The maze of the pairs of rooms; unlike doors are sought."""

    def door(pair, setting):
        left = rooms.doors[pair[0]][setting]
        right = others.doors[pair[1]][setting]
        if left[0] != right[0]:
            return (FOUND, pair)
        return (left[0], (left[1], right[1]))

    return Maze(bonds, (0, 0), bonds.good(), door)


def is_below(number, bound):
    return 0 <= number < bound
