"""The rooms of a program: one at its begin and one behind each deed, and their doors."""

from anymeaning.runs import run_along
from anymeaning.signs import SETTINGS
from anymeaning.steps import Choice, DONE, Deed, HUNG, Loop, Row, STOPPED, Skip, Stop


class Rooms:
    """The rooms of a program, with a door for each setting in each of them."""

    def __init__(self, step):
        self.step = step
        self.doors = doors_of(step, 0)

    def run(self, world, state, most):
        return run_along(0, lambda room, setting: self.doors[room][setting], world, state, most)

    def rest_of(self, room):
        if room == 0:
            return self.step
        return rests_behind(self.step)[room - 1]


def rests_behind(step):
    """What is left behind each deed of a program, in the order of its letters."""
    if isinstance(step, Deed):
        return [Skip()]
    if isinstance(step, Row):
        begun = [Row(left, step.tail) for left in rests_behind(step.head)]
        return begun + rests_behind(step.tail)
    if isinstance(step, Choice):
        return rests_behind(step.yes) + rests_behind(step.no)
    if isinstance(step, Loop):
        return [Row(left, step) for left in rests_behind(step.body)]
    return []


def doors_of(step, ahead):
    """The doors of all rooms of a program, ahead of which stand so many deeds of a larger one.

    Places are counted, not looked up: one program may stand in several places.
    """
    if isinstance(step, Skip):
        return [ended(DONE)]
    if isinstance(step, Stop):
        return [ended(STOPPED)]
    if isinstance(step, Deed):
        return [[(step.name, ahead + 1)] * SETTINGS, ended(DONE)]
    if isinstance(step, Row):
        return row_doors(step, ahead)
    if isinstance(step, Choice):
        return choice_doors(step, ahead)
    return loop_doors(step, ahead)


def ended(end):
    return [(end, 0)] * SETTINGS


def row_doors(step, ahead):
    head = doors_of(step.head, ahead)
    tail = doors_of(step.tail, ahead + len(head) - 1)
    return [gone_on(doors, tail[0]) for doors in head] + tail[1:]


def choice_doors(step, ahead):
    yes = doors_of(step.yes, ahead)
    no = doors_of(step.no, ahead + len(yes) - 1)
    begin = [yes[0][setting] if step.test.holds(setting) else no[0][setting] for setting in range(SETTINGS)]
    return [begin] + yes[1:] + no[1:]


def loop_doors(step, ahead):
    body = doors_of(step.body, ahead)
    begin = [loop_door(step.test.holds(setting), body[0][setting]) for setting in range(SETTINGS)]
    return [begin] + [gone_on(doors, begin) for doors in body[1:]]


def loop_door(holds, door):
    if not holds:
        return (DONE, 0)
    # Nothing has changed, so the body would be done so for ever.
    if door[0] == DONE:
        return (HUNG, 0)
    return door


def gone_on(doors, later):
    """The doors of a room where what is done there goes on by the later doors."""
    return [later[setting] if doors[setting][0] == DONE else doors[setting] for setting in range(SETTINGS)]
