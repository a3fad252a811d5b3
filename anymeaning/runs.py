"""Runs of programs in worlds."""

from anymeaning.steps import ENDS

MORE = "more"


def run_from(step, world, state, most):
    """A tuple (deeds, end, state) of a program's run, for at most so many deeds."""
    return run_along(step, lambda left, setting: left.first(setting), world, state, most)


def run_along(begin, door, world, state, most):
    """The run from a place on: door(place, setting) tells an end, or a deed and the next place."""
    deeds = []
    place = begin
    while True:
        told = door(place, world.setting(state))
        if told[0] in ENDS:
            return ("".join(deeds), told[0], state)
        if len(deeds) == most:
            return ("".join(deeds), MORE, state)
        deeds.append(told[0])
        state = world.led(told[0], state)
        place = told[1]
