"""The world of a word: in it a run goes along the word."""

from anymeaning.bonds import Bonds
from anymeaning.signs import settings_in
from anymeaning.steps import DEEDS
from anymeaning.worlds import listed_world


def world_of(settings, deeds, sayings):
    """The listed world of the word's states and, behind them, one state for each good setting."""
    bonds = Bonds(sayings)
    good = settings_in(bonds.good())
    places = list(settings) + good
    leads = {}
    for deed in DEEDS:
        least = [least_state(bonds.ways(deed, setting), good, len(settings)) for setting in places]
        leads[deed] = [
            state + 1 if state < len(deeds) and deeds[state] == deed else least[state] for state in range(len(places))
        ]
    return listed_world(places, leads)


def least_state(ways, good, ahead):
    """The state of the least setting among the ways; ahead of the good ones stand so many states."""
    return ahead + good.index(settings_in(ways)[0])
