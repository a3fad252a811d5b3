"""Shorter programs that are alike."""

from anymeaning.bonds import Bonds
from anymeaning.judge import Alike, compared
from anymeaning.rooms import Rooms
from anymeaning.steps import Choice, Deed, Loop, Row, Skip, Stop


def weight_of(step):
    inner = sum([weight_of(own) for own in own_programs(step)])
    if isinstance(step, (Deed, Loop)):
        return 2 + inner
    return 1 + inner


def own_programs(step):
    if isinstance(step, Row):
        return [step.head, step.tail]
    if isinstance(step, Choice):
        return [step.yes, step.no]
    if isinstance(step, Loop):
        return [step.body]
    return []


def with_own(step, number, own):
    """The program with another one in the place of this one of its own programs."""
    if isinstance(step, Row):
        return Row(own, step.tail) if number == 0 else Row(step.head, own)
    if isinstance(step, Choice):
        return Choice(step.test, own, step.no) if number == 0 else Choice(step.test, step.yes, own)
    return Loop(step.test, own)


def shorter(step):
    """The programs with something lighter at one of its places, place by place."""
    weight = weight_of(step)
    own = own_programs(step)
    found = [other for other in [Skip(), Stop()] + own if weight_of(other) < weight]
    # What is lighter within one of its own programs is lighter by as much here.
    for number, inner in enumerate(own):
        found.extend([with_own(step, number, other) for other in shorter(inner)])
    return found


def shorten(step, sayings):
    """A list from the program to one of which no shorter one is alike, each the first such of the one ahead."""
    bonds = Bonds(sayings)
    found = [step]
    later = first_alike(step, bonds)
    while later is not None:
        found.append(later)
        later = first_alike(later, bonds)
    return found


def first_alike(step, bonds):
    rooms = Rooms(step)
    for other in shorter(step):
        if isinstance(compared(rooms, Rooms(other), bonds), Alike):
            return other
    return None
