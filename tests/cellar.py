"""A small world to try things on, and stands of it."""

import random

from tellworld.stands import first_stand, is_stand, with_part
from tellworld.things import Mark, Thing, Verb
from tellworld.worlds import World


ORDER = ("things", "marks", "dark", "ways", "verbs", "rules")


def cellar_parts():
    """What the cellar world is made of, as new lists of new objects, by the names of World's arguments."""
    return {
        # Not in the order of their names, so that what is sorted differs from what is merely in order.
        "things": [
            Thing("hall", ("hall",), "room"),
            Thing("cellar", ("cellar",), "room"),
            Thing("tin", ("tin",), "box", "cellar"),
            Thing("chest", ("oak", "chest"), "box", "hall"),
            Thing("me", ("me",), "you", "hall"),
            Thing("bag", ("bag",), "box", "me"),
            Thing("torch", ("torch",), "lamp", "chest"),
            Thing("coin", ("coin",), "plain", "bag"),
            Thing("altar", ("altar",), "fixed", "cellar"),
        ],
        "marks": [Mark("tide", 2, 3), Mark("door", 0, 1)],
        "dark": ["cellar"],
        "ways": [("hall", "down", "cellar", "door"), ("cellar", "up", "hall", None)],
        "verbs": [
            Verb("rub"),
            Verb("tie", ("bind",), "two", "to"),
            Verb("climb", (), "way"),
            Verb("sing", (), "alone"),
        ],
        "rules": [],
    }


def cellar_world(**changes):
    """The cellar world, but for the lists given by the names of World's arguments."""
    parts = cellar_parts()
    parts.update(changes)
    return World(*[parts[name] for name in ORDER])


def bare_world(things, marks=()):
    return World(list(things), list(marks), [], [], [], [])


def stand_where(world, at=None, marks=None):
    """The first stand of a world, but for the places and marks given by name."""
    stand = first_stand(world)
    for name, place in (at or {}).items():
        stand = with_part(stand, ("at", name), place)
    for name, value in (marks or {}).items():
        stand = with_part(stand, ("mark", name), value)
    return stand


def random_stands(world, count):
    """Right stands of the cellar world, drawn by a fixed seed."""
    draw = random.Random(7)
    stands = []
    while len(stands) < count:
        at = {name: draw.choice(["hall", "cellar", "me", "bag", "chest", "tin"])
              for name in ("altar", "bag", "chest", "coin", "tin", "torch")}
        at["me"] = draw.choice(["hall", "cellar"])
        marks = {name: draw.choice([0, 1]) for name in ("bag", "chest", "door", "tin", "torch")}
        marks["tide"] = draw.choice([0, 1, 2, 3])
        stand = stand_where(world, at, marks)
        if is_stand(world, stand):
            stands.append(stand)
    return stands
