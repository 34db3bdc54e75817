"""An object with those methods of a World that stands ask for, and a small world to try them on."""

from tellworld.things import Mark, Thing


class StandInWorld:
    def __init__(self, things, marks):
        self.things = list(things)
        self.marks = list(marks)

    def names(self):
        return [thing.name for thing in self.things]

    def thing_of(self, name):
        # A dict, so that handing in what can't be a key fails, as it may in any world.
        return {thing.name: thing for thing in self.things}.get(name)

    def of_kind(self, kind):
        return [thing.name for thing in self.things if thing.kind == kind]

    def you(self):
        return self.of_kind("you")[0]

    def own_marks(self):
        return list(self.marks)

    def most_of(self, name):
        mosts = {thing.name: 1 for thing in self.things if thing.has_mark()}
        mosts.update({mark.name: mark.most for mark in self.marks})
        return mosts.get(name)

    def parts(self):
        at = [("at", thing.name) for thing in self.things if thing.kind != "room"]
        marks = [("mark", thing.name) for thing in self.things if thing.has_mark()]
        own = [("mark", mark.name) for mark in self.marks]
        return sorted(at + marks + own)


def cellar_world():
    # Not in the order of their names, so that what is sorted differs from what is merely in order.
    things = [
        Thing("hall", ("hall",), "room"),
        Thing("cellar", ("cellar",), "room"),
        Thing("tin", ("tin",), "box", "cellar"),
        Thing("chest", ("oak", "chest"), "box", "hall"),
        Thing("me", ("me",), "you", "hall"),
        Thing("bag", ("bag",), "box", "me"),
        Thing("torch", ("torch",), "lamp", "chest"),
        Thing("coin", ("coin",), "plain", "bag"),
        Thing("altar", ("altar",), "fixed", "cellar"),
    ]
    return StandInWorld(things, [Mark("tide", 2, 3), Mark("door", 0, 1)])
