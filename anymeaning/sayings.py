"""Sayings: what binds worlds, and the sayings' own texts."""

from anymeaning.signs import EVERY, is_in


class Saying:
    """The base of the sayings, not used by itself; what it tells here holds of a kind that tells nothing else."""

    def bars(self, setting):
        return False

    def lets(self, deed, setting, later):
        return is_in(later, self.later_mask(deed, setting))

    def later_mask(self, deed, setting):
        """The next settings that are let by behind the deed from a setting."""
        return EVERY

    def text(self):
        raise NotImplementedError("each kind of saying tells its own text")


class Nowhere(Saying):
    """At no state its test holds."""

    def __init__(self, test):
        self.test = test

    def bars(self, setting):
        return self.test.holds(setting)

    def text(self):
        return "nowhere " + self.test.text()


class Behind(Saying):
    """Where before holds, after holds behind the deed."""

    def __init__(self, before, deed, after):
        self.before = before
        self.deed = deed
        self.after = after

    def later_mask(self, deed, setting):
        if deed == self.deed and self.before.holds(setting):
            return self.after.mask()
        return EVERY

    def text(self):
        return "behind " + self.deed + " : " + self.before.text() + " : " + self.after.text()


class Through(Saying):
    """Its test holds behind the deed just where it holds ahead of it."""

    def __init__(self, test, deed):
        self.test = test
        self.deed = deed

    def later_mask(self, deed, setting):
        if deed != self.deed:
            return EVERY
        mask = self.test.mask()
        return mask if is_in(setting, mask) else EVERY - mask

    def text(self):
        return "through " + self.deed + " : " + self.test.text()
