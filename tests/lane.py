"""Rooms in a row, so that what is come to is plain to see; and a search by stands alone, to hold others against."""

from tellworld.steps import commands, step
from tellworld.things import Mark, Thing, Verb
from tellworld.worlds import World

ROOMS = ["ra", "rb", "rc", "rd", "re"]


def lane_world(rules=(), marks=(), things=(), count=5, back=("rc",), start="ra"):
    rooms = [Thing(name, (name,), "room") for name in ROOMS[:count]]
    ways = [(ROOMS[k], "on", ROOMS[k + 1], None) for k in range(count - 1)]
    ways.extend((room, "back", ROOMS[ROOMS.index(room) - 1], None) for room in back)
    you = [Thing("me", ("me",), "you", start)]
    return World(rooms + you + list(things), list(marks), [], ways, [Verb("ring", (), "alone")], list(rules))


def marks_of(*names):
    return [Mark(name, 0, 1) for name in names]


def depths_by_stands(world, stand, most):
    """The fewest commands to each stand that is come to, by stands alone; None where they are more than most."""
    depths = {stand: 0}
    waiting = [stand]
    for here in waiting:
        for command in commands(world):
            behind = step(world, here, command)[1]
            if behind not in depths:
                depths[behind] = depths[here] + 1
                waiting.append(behind)
        if len(depths) > most:
            return None
    return depths


def fewest(world, wish, depths):
    """n of point 32, or None, by what depths_by_stands told."""
    return min((depth for stand, depth in depths.items() if wish.holds(world, stand, None)), default=None)
