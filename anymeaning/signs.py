"""Tests: what holds at a setting, and the tests' own texts."""

# A letter's place here is its bit in a setting.
LETTERS = ("a", "b", "c", "d")
SETTINGS = 16
# The mask of all settings.
EVERY = 65535


def is_in(setting, mask):
    return (mask >> setting) & 1 == 1


def settings_in(mask):
    return [setting for setting in range(SETTINGS) if is_in(setting, mask)]


def in_brackets(text):
    return "( " + text + " )"


class Test:
    """The base of the tests, not used by itself."""

    def holds(self, setting):
        raise NotImplementedError("each kind of test tells where it holds")

    def mask(self):
        total = 0
        for setting in range(SETTINGS):
            if self.holds(setting):
                total += 1 << setting
        return total

    def text(self):
        raise NotImplementedError("each kind of test tells its own text")


class Yes(Test):
    """Holds at every setting."""

    def holds(self, setting):
        return True

    def text(self):
        return "yes"


class No(Test):
    """Holds at no setting."""

    def holds(self, setting):
        return False

    def text(self):
        return "no"


class Named(Test):
    """Holds where its letter holds."""

    def __init__(self, name):
        self.name = name

    def holds(self, setting):
        return (setting >> LETTERS.index(self.name)) & 1 == 1

    def text(self):
        return self.name


class Not(Test):
    """Holds where its inner test doesn't."""

    def __init__(self, inner):
        self.inner = inner

    def holds(self, setting):
        return not self.inner.holds(setting)

    def text(self):
        inner = self.inner.text()
        if isinstance(self.inner, (Both, Either)):
            inner = in_brackets(inner)
        return "not " + inner


class Both(Test):
    """Holds where both of its tests hold."""

    def __init__(self, left, right):
        self.left = left
        self.right = right

    def holds(self, setting):
        return self.left.holds(setting) and self.right.holds(setting)

    def text(self):
        left = self.left.text()
        if isinstance(self.left, Either):
            left = in_brackets(left)
        right = self.right.text()
        # A Both on the right has brackets too: without them the left `and` would go first.
        if isinstance(self.right, (Both, Either)):
            right = in_brackets(right)
        return left + " and " + right


class Either(Test):
    """Holds where one of its tests holds, or both."""

    def __init__(self, left, right):
        self.left = left
        self.right = right

    def holds(self, setting):
        return self.left.holds(setting) or self.right.holds(setting)

    def text(self):
        right = self.right.text()
        # Without brackets the left `or` would go first.
        if isinstance(self.right, Either):
            right = in_brackets(right)
        return self.left.text() + " or " + right
