"""Deeds: what a rule does to a stand, what that hangs on and what it changes (points 17, 18).

Nothing is refused here: a deed may be made with anything, and a world asks whether it is right.
"""

from tellworld.asks import at_parts, box_parts, given, mark_parts, meant, tidy
from tellworld.seeing import holders_of
from tellworld.stands import with_part


class Deed:
    pass


class Move(Deed):
    def __init__(self, term, place):
        self.term = term
        self.place = place

    def done(self, world, stand, command):
        name = meant(world, stand, command, self.term)
        goal = meant(world, stand, command, self.place)
        if not can_go(world, name, goal) or name in holders_of(world, stand, goal):
            return None
        return with_part(stand, ("at", name), goal)

    def reads(self, world, it, other):
        parts = []
        # Only a box may have the place within it, and boxes alone hold boxes, beside you and rooms.
        if given(self.term, it, other) in world.of_kind("box"):
            parts = box_parts(world)
        if self.place == "here":
            parts = parts + at_parts(world, world.you())
        return tidy(parts)

    def change(self, world, it, other):
        name = given(self.term, it, other)
        # A room, whichever it is, can hold and isn't what is moved: any one does for here.
        goal = world.of_kind("room")[0] if self.place == "here" else given(self.place, it, other)
        return ("at", name) if can_go(world, name, goal) else None

    def told(self):
        return ("move", self.term, self.place)


class Put(Deed):
    def __init__(self, term, value):
        self.term = term
        self.value = value

    def done(self, world, stand, command):
        name = meant(world, stand, command, self.term)
        if not can_show(world, name, self.value):
            return None
        return with_part(stand, ("mark", name), self.value)

    def reads(self, world, it, other):
        return ()

    def change(self, world, it, other):
        name = given(self.term, it, other)
        return ("mark", name) if can_show(world, name, self.value) else None

    def told(self):
        return ("put", self.term, self.value)


def deed_of(told):
    if told[0] == "move":
        return Move(told[1], told[2])
    return Put(told[1], told[2])


def can_go(world, name, goal):
    holder = world.thing_of(goal)
    return at_parts(world, name) != [] and holder is not None and holder.can_hold() and goal != name


def can_show(world, name, value):
    return mark_parts(world, name) != [] and value <= world.most_of(name)
