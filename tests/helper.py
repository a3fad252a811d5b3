"""What several of the tests need."""

import random

from anymeaning.rooms import Rooms
from anymeaning.sayings import Behind, Nowhere, Through
from anymeaning.saywords import read_saying
from anymeaning.signs import Both, Either, Named, No, Not, Yes
from anymeaning.steps import Choice, Deed, Loop, Row, Skip, Stop
from anymeaning.worlds import World, listed_world

SETTINGS = range(16)
DEEDS = "PQRST"

FIELDS = {
    Yes: (),
    No: (),
    Named: ("name",),
    Not: ("inner",),
    Both: ("left", "right"),
    Either: ("left", "right"),
    Skip: (),
    Stop: (),
    Deed: ("name",),
    Row: ("head", "tail"),
    Choice: ("test", "yes", "no"),
    Loop: ("test", "body"),
    Nowhere: ("test",),
    Behind: ("before", "deed", "after"),
    Through: ("test", "deed"),
}

A = Named("a")
B = Named("b")
C = Named("c")
D = Named("d")
P = Deed("P")
Q = Deed("Q")
R = Deed("R")
S = Deed("S")
T = Deed("T")


def shape(thing):
    """A test, a program or a saying as tuples of its very classes and all of its fields."""
    if isinstance(thing, str):
        return thing
    kind = type(thing)
    return (kind.__name__, *[shape(getattr(thing, field)) for field in FIELDS[kind]])


def tests_by_size(letters, most):
    """All tests over these letters of at most so many parts, a list for each number of parts."""
    sizes = [[], [Yes(), No()] + [Named(letter) for letter in letters]]
    for size in range(2, most + 1):
        found = [Not(inner) for inner in sizes[size - 1]]
        for kind in (Both, Either):
            for part in range(1, size - 1):
                found += [kind(one, two) for one in sizes[part] for two in sizes[size - 1 - part]]
        sizes.append(found)
    return sizes


def steps_by_size(leaves, tests, most):
    """All programs of these leaves and tests of at most so many parts, a list for each number of parts."""
    sizes = [[], list(leaves)]
    for size in range(2, most + 1):
        found = [Loop(test, body) for test in tests for body in sizes[size - 1]]
        for part in range(1, size - 1):
            pairs = [(one, two) for one in sizes[part] for two in sizes[size - 1 - part]]
            found += [Row(one, two) for one, two in pairs]
            found += [Choice(test, one, two) for test in tests for one, two in pairs]
        sizes.append(found)
    return sizes


def all_of(sizes):
    return [thing for same in sizes for thing in same]


def play(step, now):
    """Runs a program as a plain interpreter does: yields its deeds, gives back its end.

    It keeps no program that is left; now is a dict with the setting and the number of deeds done.
    """
    if isinstance(step, Deed):
        now["deeds"] += 1
        yield step.name
        return "done"
    if isinstance(step, Row):
        end = yield from play(step.head, now)
        return (yield from play(step.tail, now)) if end == "done" else end
    if isinstance(step, Choice):
        return (yield from play(step.yes if step.test.holds(now["setting"]) else step.no, now))
    if isinstance(step, Loop):
        while step.test.holds(now["setting"]):
            deeds = now["deeds"]
            end = yield from play(step.body, now)
            if end != "done":
                return end
            if now["deeds"] == deeds:
                return "hung"
        return "done"
    return "done" if isinstance(step, Skip) else "stopped"


def interpreted(step, world, state, most):
    """A run as [16] tells it, by the plain interpreter."""
    now = {"setting": world.setting(state), "deeds": 0}
    player = play(step, now)
    deeds = ""
    while True:
        try:
            deed = next(player)
        except StopIteration as ended:
            return (deeds, ended.value, state)
        if len(deeds) == most:
            return (deeds, "more", state)
        deeds += deed
        state = world.led(deed, state)
        now["setting"] = world.setting(state)


def some_test(chance, parts):
    """A test of so many parts, by chance."""
    if parts == 1:
        return chance.choice([Yes(), No(), A, A, B, B, C, D])
    if parts == 2 or chance.random() < 0.3:
        return Not(some_test(chance, parts - 1))
    left = chance.randint(1, parts - 2)
    kind = chance.choice([Both, Either])
    return kind(some_test(chance, left), some_test(chance, parts - 1 - left))


def some_step(chance, parts, deeds="PQRST"):
    """A program of so many parts, by chance."""
    if parts == 1:
        if chance.random() < 0.75:
            return Deed(chance.choice(deeds))
        return chance.choice([Skip(), Skip(), Stop()])
    test = some_test(chance, chance.choice([1, 1, 1, 2, 3, 4]))
    if parts == 2 or chance.random() < 0.25:
        return Loop(test, some_step(chance, parts - 1, deeds))
    left = chance.randint(1, parts - 2)
    one = some_step(chance, left, deeds)
    two = some_step(chance, parts - 1 - left, deeds)
    return Row(one, two) if chance.random() < 0.6 else Choice(test, one, two)


def some_steps(seed, number, most_parts, deeds="PQRST"):
    """So many programs of at most twelve deeds, the same ones each time."""
    chance = random.Random(seed)
    found = []
    while len(found) < number:
        step = some_step(chance, chance.randint(1, most_parts), deeds)
        if len(step.letters()) <= 12:
            found.append(step)
    return found


def some_world(chance, states):
    """A listed world of so many states, by chance."""
    settings = [chance.randrange(16) for _ in range(states)]
    return listed_world(settings, {deed: [chance.randrange(states) for _ in range(states)] for deed in DEEDS})


def endless_world():
    """A world over all whole numbers, negative ones too."""
    return World(
        lambda state: (state * state // 3 + state) % 16,
        lambda deed, state: 3 * state - 40 * "PQRST".index(deed) if abs(state) < 10 ** 6 else state // 7,
    )


def sayings_of(*texts):
    return [read_saying(text) for text in texts]


def some_saying(chance):
    """A saying, by chance, of tests of some parts."""
    one = some_test(chance, chance.choice([1, 1, 2, 3, 4]))
    two = some_test(chance, chance.choice([1, 1, 2, 3, 4]))
    deed = chance.choice(DEEDS)
    return chance.choice([Nowhere(Both(one, two)), Behind(one, deed, two), Behind(one, deed, two), Through(one, deed)])


def some_sayings(chance, most=8):
    return [some_saying(chance) for _ in range(chance.randint(0, most))]


def rewritten(chance, step):
    """Another program that is alike to the step, by a law or two at a place by chance."""
    if isinstance(step, Row) and chance.random() < 0.7:
        if chance.random() < 0.5:
            return Row(rewritten(chance, step.head), step.tail)
        return Row(step.head, rewritten(chance, step.tail))
    if isinstance(step, Choice) and chance.random() < 0.7:
        return Choice(step.test, rewritten(chance, step.yes), rewritten(chance, step.no))
    if isinstance(step, Loop) and chance.random() < 0.7:
        return Choice(step.test, Row(step.body, step), Skip()) if step.body.letters() else step
    test = some_test(chance, 2)
    return chance.choice([
        Row(step, Skip()), Row(Skip(), step), Choice(test, step, step), Choice(Yes(), step, Stop()),
    ])


def pairs_of_programs(seed, number, most_parts):
    """Pairs of programs with some sayings: many alike or nearly so."""
    chance = random.Random(seed)
    found = []
    while len(found) < number:
        one = some_step(chance, chance.randint(1, most_parts), "PQ")
        turn = chance.random()
        if turn < 0.5:
            other = rewritten(chance, rewritten(chance, one))
        elif turn < 0.75:
            other = rewritten(chance, Row(one, some_step(chance, 2, "PQ")))
        else:
            other = some_step(chance, chance.randint(1, most_parts), "PQ")
        if max(len(one.letters()), len(other.letters())) <= 12:
            found.append((one, other, some_sayings(chance, 4)))
    return found


def plain_good(sayings):
    """The good settings by [22], as a set, left out one by one."""
    good = {setting for setting in SETTINGS if not any(saying.bars(setting) for saying in sayings)}
    while True:
        bad = [
            setting for setting in good
            if any(not plain_later(sayings, good, deed, setting) for deed in DEEDS)
        ]
        if not bad:
            return good
        good.remove(bad[0])


def plain_later(sayings, settings, deed, setting):
    """Those of the settings that all sayings let by."""
    return {later for later in settings if all(saying.lets(deed, setting, later) for saying in sayings)}


def mask_of(settings):
    return sum(1 << setting for setting in settings)


def is_deed(door):
    return door[0] in tuple(DEEDS)


class Plain:
    """Two programs side by side under sayings, by sets of triples as [26] tells."""

    def __init__(self, one, other, sayings):
        self.one = Rooms(one).doors
        self.other = Rooms(other).doors
        self.good = plain_good(sayings)
        self.ways = {
            (deed, setting): plain_later(sayings, self.good, deed, setting) for deed in DEEDS for setting in SETTINGS
        }

    def doors(self, triple):
        return (self.one[triple[0]][triple[2]], self.other[triple[1]][triple[2]])

    def unlike(self, triple):
        left, right = self.doors(triple)
        return left[0] != right[0]

    def next_triples(self, triple):
        left, right = self.doors(triple)
        if self.unlike(triple) or not is_deed(left):
            return set()
        return {(left[1], right[1], later) for later in self.ways[(left[0], triple[2])]}

    def layers(self):
        """Sets of triples, each with those to which one comes first by so many deeds."""
        layer = {(0, 0, setting) for setting in self.good}
        seen = set()
        found = []
        while layer:
            found.append(layer)
            seen |= layer
            layer = {later for triple in layer for later in self.next_triples(triple)} - seen
        return found

    def shortest(self):
        """The letters of a shortest word, or None."""
        for number, layer in enumerate(self.layers()):
            if any(self.unlike(triple) for triple in layer):
                return number
        return None

    def table(self):
        masks = {(0, 0): 0}
        for layer in self.layers():
            for one, other, setting in layer:
                masks[(one, other)] = masks.get((one, other), 0) | 1 << setting
        return sorted((one, other, mask) for (one, other), mask in masks.items())

    def is_table(self, table):
        """Whether a table stands, word by word as [30] tells."""
        for one, other, mask in table:
            if one not in range(len(self.one)) or other not in range(len(self.other)) or mask not in range(65536):
                return False
        triples = {(one, other, s) for one, other, mask in table for s in self.good if mask >> s & 1}
        if not {(0, 0, setting) for setting in self.good} <= triples:
            return False
        return all(not self.unlike(triple) and self.next_triples(triple) <= triples for triple in triples)

    def is_word(self, settings, deeds):
        """Whether a word stands, as [29] and [30] tell."""
        if len(settings) != len(deeds) + 1 or settings[0] not in self.good:
            return False
        triple = (0, 0, settings[0])
        for deed, setting in zip(deeds, settings[1:]):
            left, right = self.doors(triple)
            later = (left[1], right[1], setting)
            if left[0] != deed or later not in self.next_triples(triple):
                return False
            triple = later
        return self.unlike(triple)
