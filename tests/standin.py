"""An object with those methods of a World that stands, tests and deeds ask for, and a small world to try them on."""

import random

from tellworld.stands import first_stand, is_stand, with_part
from tellworld.things import Mark, Thing, Verb


class StandInWorld:
    def __init__(self, things, marks, dark=(), verbs=()):
        self.things = list(things)
        self.marks = list(marks)
        self.dark = list(dark)
        self.verbs = list(verbs)

    def is_dark(self, room):
        return room in self.dark

    def verb_of(self, word):
        return {verb.name: verb for verb in self.verbs}.get(word)

    def names(self):
        return [thing.name for thing in self.things]

    def thing_of(self, name):
        # A dict, so that handing in what can't be a key fails, as it may in any world.
        return {thing.name: thing for thing in self.things}.get(name)

    def of_kind(self, kind):
        return [thing.name for thing in self.things if thing.kind == kind]

    def you(self):
        return self.of_kind("you")[0]

    def own_marks(self):
        return list(self.marks)

    def most_of(self, name):
        mosts = {thing.name: 1 for thing in self.things if thing.has_mark()}
        mosts.update({mark.name: mark.most for mark in self.marks})
        return mosts.get(name)

    def parts(self):
        at = [("at", thing.name) for thing in self.things if thing.kind != "room"]
        marks = [("mark", thing.name) for thing in self.things if thing.has_mark()]
        own = [("mark", mark.name) for mark in self.marks]
        return sorted(at + marks + own)


def cellar_world():
    # Not in the order of their names, so that what is sorted differs from what is merely in order.
    things = [
        Thing("hall", ("hall",), "room"),
        Thing("cellar", ("cellar",), "room"),
        Thing("tin", ("tin",), "box", "cellar"),
        Thing("chest", ("oak", "chest"), "box", "hall"),
        Thing("me", ("me",), "you", "hall"),
        Thing("bag", ("bag",), "box", "me"),
        Thing("torch", ("torch",), "lamp", "chest"),
        Thing("coin", ("coin",), "plain", "bag"),
        Thing("altar", ("altar",), "fixed", "cellar"),
    ]
    verbs = [
        Verb("rub"),
        Verb("tie", ("bind",), "two", "to"),
        Verb("climb", (), "way"),
        Verb("sing", (), "alone"),
        Verb("take"),
        Verb("put", (), "two", "in"),
        Verb("go", (), "way"),
        Verb("wait", (), "alone"),
    ]
    return StandInWorld(things, [Mark("tide", 2, 3), Mark("door", 0, 1)], ["cellar"], verbs)


def stand_where(world, at=None, marks=None):
    """The first stand of a world, but for the places and marks given by name."""
    stand = first_stand(world)
    for name, place in (at or {}).items():
        stand = with_part(stand, ("at", name), place)
    for name, value in (marks or {}).items():
        stand = with_part(stand, ("mark", name), value)
    return stand


def random_stands(world, count):
    """Right stands of the cellar world, drawn by a fixed seed."""
    draw = random.Random(7)
    stands = []
    while len(stands) < count:
        at = {name: draw.choice(["hall", "cellar", "me", "bag", "chest", "tin"])
              for name in ("altar", "bag", "chest", "coin", "tin", "torch")}
        at["me"] = draw.choice(["hall", "cellar"])
        marks = {name: draw.choice([0, 1]) for name in ("bag", "chest", "door", "tin", "torch")}
        marks["tide"] = draw.choice([0, 1, 2, 3])
        stand = stand_where(world, at, marks)
        if is_stand(world, stand):
            stands.append(stand)
    return stands
