"""What several of the tests need."""

import random

from anymeaning.signs import Both, Either, Named, No, Not, Yes
from anymeaning.steps import Choice, Deed, Loop, Row, Skip, Stop
from anymeaning.worlds import World, listed_world

SETTINGS = range(16)
DEEDS = "PQRST"

FIELDS = {
    Yes: (),
    No: (),
    Named: ("name",),
    Not: ("inner",),
    Both: ("left", "right"),
    Either: ("left", "right"),
    Skip: (),
    Stop: (),
    Deed: ("name",),
    Row: ("head", "tail"),
    Choice: ("test", "yes", "no"),
    Loop: ("test", "body"),
}

A = Named("a")
B = Named("b")
C = Named("c")
D = Named("d")
P = Deed("P")
Q = Deed("Q")
R = Deed("R")
S = Deed("S")
T = Deed("T")


def shape(thing):
    """A test or a program as tuples of its very classes and all of its fields."""
    if isinstance(thing, str):
        return thing
    kind = type(thing)
    return (kind.__name__, *[shape(getattr(thing, field)) for field in FIELDS[kind]])


def tests_by_size(letters, most):
    """All tests over these letters of at most so many parts, a list for each number of parts."""
    sizes = [[], [Yes(), No()] + [Named(letter) for letter in letters]]
    for size in range(2, most + 1):
        found = [Not(inner) for inner in sizes[size - 1]]
        for kind in (Both, Either):
            for part in range(1, size - 1):
                found += [kind(one, two) for one in sizes[part] for two in sizes[size - 1 - part]]
        sizes.append(found)
    return sizes


def steps_by_size(leaves, tests, most):
    """All programs of these leaves and tests of at most so many parts, a list for each number of parts."""
    sizes = [[], list(leaves)]
    for size in range(2, most + 1):
        found = [Loop(test, body) for test in tests for body in sizes[size - 1]]
        for part in range(1, size - 1):
            pairs = [(one, two) for one in sizes[part] for two in sizes[size - 1 - part]]
            found += [Row(one, two) for one, two in pairs]
            found += [Choice(test, one, two) for test in tests for one, two in pairs]
        sizes.append(found)
    return sizes


def all_of(sizes):
    return [thing for same in sizes for thing in same]


def play(step, now):
    """Runs a program as a plain interpreter does: yields its deeds, gives back its end.

    It keeps no program that is left; now is a dict with the setting and the number of deeds done.
    """
    if isinstance(step, Deed):
        now["deeds"] += 1
        yield step.name
        return "done"
    if isinstance(step, Row):
        end = yield from play(step.head, now)
        return (yield from play(step.tail, now)) if end == "done" else end
    if isinstance(step, Choice):
        return (yield from play(step.yes if step.test.holds(now["setting"]) else step.no, now))
    if isinstance(step, Loop):
        while step.test.holds(now["setting"]):
            deeds = now["deeds"]
            end = yield from play(step.body, now)
            if end != "done":
                return end
            if now["deeds"] == deeds:
                return "hung"
        return "done"
    return "done" if isinstance(step, Skip) else "stopped"


def interpreted(step, world, state, most):
    """A run as [16] tells it, by the plain interpreter."""
    now = {"setting": world.setting(state), "deeds": 0}
    player = play(step, now)
    deeds = ""
    while True:
        try:
            deed = next(player)
        except StopIteration as ended:
            return (deeds, ended.value, state)
        if len(deeds) == most:
            return (deeds, "more", state)
        deeds += deed
        state = world.led(deed, state)
        now["setting"] = world.setting(state)


def some_test(chance, parts):
    """A test of so many parts, by chance."""
    if parts == 1:
        return chance.choice([Yes(), No(), A, A, B, B, C, D])
    if parts == 2 or chance.random() < 0.3:
        return Not(some_test(chance, parts - 1))
    left = chance.randint(1, parts - 2)
    kind = chance.choice([Both, Either])
    return kind(some_test(chance, left), some_test(chance, parts - 1 - left))


def some_step(chance, parts, deeds="PQRST"):
    """A program of so many parts, by chance."""
    if parts == 1:
        if chance.random() < 0.75:
            return Deed(chance.choice(deeds))
        return chance.choice([Skip(), Skip(), Stop()])
    test = some_test(chance, chance.choice([1, 1, 1, 2, 3, 4]))
    if parts == 2 or chance.random() < 0.25:
        return Loop(test, some_step(chance, parts - 1, deeds))
    left = chance.randint(1, parts - 2)
    one = some_step(chance, left, deeds)
    two = some_step(chance, parts - 1 - left, deeds)
    return Row(one, two) if chance.random() < 0.6 else Choice(test, one, two)


def some_steps(seed, number, most_parts, deeds="PQRST"):
    """So many programs of at most twelve deeds, the same ones each time."""
    chance = random.Random(seed)
    found = []
    while len(found) < number:
        step = some_step(chance, chance.randint(1, most_parts), deeds)
        if len(step.letters()) <= 12:
            found.append(step)
    return found


def some_world(chance, states):
    """A listed world of so many states, by chance."""
    settings = [chance.randrange(16) for _ in range(states)]
    return listed_world(settings, {deed: [chance.randrange(states) for _ in range(states)] for deed in DEEDS})


def endless_world():
    """A world over all whole numbers, negative ones too."""
    return World(
        lambda state: (state * state // 3 + state) % 16,
        lambda deed, state: 3 * state - 40 * "PQRST".index(deed) if abs(state) < 10 ** 6 else state // 7,
    )
