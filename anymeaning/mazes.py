"""Places with doors, walked under sayings: what judge.py and marks.py share."""

from anymeaning.signs import SETTINGS, is_in, settings_in
from anymeaning.steps import ENDS

# What a door tells at what is sought.
FOUND = "found"


class Maze:
    """From a place, with each of some good settings, one walks on as door(place, setting) tells.

    It tells a tuple that begins with FOUND or an end; or a deed and the place behind it, to which one comes
    with each setting that may come behind the deed.
    """

    def __init__(self, bonds, begin, starts, door):
        self.bonds = bonds
        self.begin = begin
        self.starts = starts
        self.door = door

    def search(self):
        """A tuple (reached, word): the masks of the places reached; a shortest word to what is sought, or None."""
        reached = {self.begin: self.starts}
        visits = [(self.begin, setting, "", None) for setting in settings_in(self.starts)]
        number = 0
        # The nearest ones go first, so the first one found has a shortest word.
        while number < len(visits):
            visit = visits[number]
            number += 1
            told = self.door(visit[0], visit[1])
            if told[0] == FOUND:
                return (reached, word_to(visit))
            if told[0] not in ENDS:
                fresh = self.bonds.ways(told[0], visit[1]) & ~reached.get(told[1], 0)
                reached[told[1]] = reached.get(told[1], 0) | fresh
                visits.extend([(told[1], setting, told[0], visit) for setting in settings_in(fresh)])
        return (reached, None)

    def is_closed(self, masks):
        """Whether masks by places hold all to which one comes, and nothing of what is sought."""
        if not is_within(self.starts, masks.get(self.begin, 0)):
            return False
        for place, mask in masks.items():
            for setting in settings_in(mask & self.bonds.good()):
                if not self.goes_on_within(masks, place, setting):
                    return False
        return True

    def goes_on_within(self, masks, place, setting):
        told = self.door(place, setting)
        if told[0] == FOUND:
            return False
        if told[0] in ENDS:
            return True
        return is_within(self.bonds.ways(told[0], setting), masks.get(told[1], 0))

    def is_word(self, settings, deeds):
        """Whether settings and deeds lead from the begin to what is sought."""
        if len(settings) != len(deeds) + 1:
            return False
        if not all([0 <= setting < SETTINGS for setting in settings]):
            return False
        if not is_in(settings[0], self.starts):
            return False
        place = self.begin
        for number, deed in enumerate(deeds):
            told = self.door(place, settings[number])
            # Asked first: a sign that is no deed's letter has no ways.
            if told[0] != deed:
                return False
            if not is_in(settings[number + 1], self.bonds.ways(deed, settings[number])):
                return False
            place = told[1]
        return self.door(place, settings[-1])[0] == FOUND


def word_to(visit):
    """The tuple (settings, deeds) of a visit: each one keeps its place, setting, deed and the one ahead."""
    settings = []
    deeds = []
    while visit is not None:
        settings.append(visit[1])
        deeds.append(visit[2])
        visit = visit[3]
    settings.reverse()
    deeds.reverse()
    return (settings, "".join(deeds))


def is_within(mask, larger):
    return mask & larger == mask
