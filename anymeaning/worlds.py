"""Worlds: they give each state a setting and each deed a way."""

from anymeaning.errors import NoWorld
from anymeaning.signs import SETTINGS
from anymeaning.steps import DEEDS

MOST_STATES = 3000


class World:
    """Tells of each state its setting and where each deed leads from it."""

    def __init__(self, says, leads):
        self.says = says
        self.leads = leads

    def setting(self, state):
        return self.says(state)

    def led(self, deed, state):
        return self.leads(deed, state)


def listed_world(settings, leads):
    """The world of the states 0, 1, .., as many as there are settings, or NoWorld."""
    check_settings(settings)
    check_leads(leads, len(settings))
    # Copies, also of the lists within: what the asker does to his own changes no world.
    own_settings = list(settings)
    own_leads = {}
    for deed in DEEDS:
        own_leads[deed] = list(leads[deed])
    return World(
        lambda state: own_settings[state],
        lambda deed, state: own_leads[deed][state],
    )


def check_settings(settings):
    if len(settings) == 0 or len(settings) > MOST_STATES:
        raise NoWorld("a listed world has from one to three thousand states")
    if not all_below(settings, SETTINGS):
        raise NoWorld("a setting is a number from 0 to 15")


def check_leads(leads, states):
    for deed in DEEDS:
        if deed not in leads:
            raise NoWorld("one of the five deeds lacks")
    if len(leads) > len(DEEDS):
        raise NoWorld("there are five deeds and no other ones")
    for deed in DEEDS:
        if len(leads[deed]) != states:
            raise NoWorld("a deed leads from each state to one")
        if not all_below(leads[deed], states):
            raise NoWorld("a deed leads to a state of the world")


def all_below(numbers, bound):
    return all([0 <= number < bound for number in numbers])
