"""What some sayings leave to worlds: good settings and ways."""

from anymeaning.signs import EVERY, SETTINGS, is_in, settings_in
from anymeaning.steps import DEEDS


class Bonds:
    """All of some sayings together."""

    def __init__(self, sayings):
        self.unbarred = unbarred_by(sayings)
        self.let_by = let_by_all(sayings)
        self.lasting = lasting_within(self.unbarred, self.let_by)

    def good(self):
        return self.lasting

    def ways(self, deed, setting):
        return self.let_by[deed][setting] & self.lasting

    def keeps_at(self, world, state):
        """Whether a world keeps the sayings at a state; its settings need not be good for that."""
        setting = world.setting(state)
        if not is_in(setting, self.unbarred):
            return False
        for deed in DEEDS:
            if not is_in(world.setting(world.led(deed, state)), self.let_by[deed][setting]):
                return False
        return True


def unbarred_by(sayings):
    mask = EVERY
    for setting in range(SETTINGS):
        if any([saying.bars(setting) for saying in sayings]):
            mask -= 1 << setting
    return mask


def let_by_all(sayings):
    """For each deed a list with, for each setting, the mask of the next settings that all sayings let by."""
    masks = {}
    for deed in DEEDS:
        masks[deed] = [later_by_all(sayings, deed, setting) for setting in range(SETTINGS)]
    return masks


def later_by_all(sayings, deed, setting):
    mask = EVERY
    for saying in sayings:
        mask &= saying.later_mask(deed, setting)
    return mask


def lasting_within(mask, let_by):
    """The greatest set within the mask in which each deed has a way from each setting."""
    while True:
        left = 0
        for setting in settings_in(mask):
            if all([let_by[deed][setting] & mask != 0 for deed in DEEDS]):
                left += 1 << setting
        if left == mask:
            return mask
        mask = left


def is_kept(world, sayings, states):
    bonds = Bonds(sayings)
    return all([bonds.keeps_at(world, state) for state in states])


def is_due(sayings, saying):
    bonds = Bonds(sayings)
    for setting in settings_in(bonds.good()):
        if saying.bars(setting):
            return False
        for deed in DEEDS:
            ways = bonds.ways(deed, setting)
            if ways & saying.later_mask(deed, setting) != ways:
                return False
    return True
