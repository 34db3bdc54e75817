"""Stands: where each thing is and what each mark shows (points 13, 14)."""

from tellworld.words import is_same_text, is_whole


def first_stand(world):
    starts = own_starts(world)
    return tuple([(part, first_value(world, starts, part)) for part in world.parts()])


def own_starts(world):
    starts = {}
    for mark in world.own_marks():
        starts[mark.name] = mark.start
    return starts


def first_value(world, starts, part):
    if part[0] == "at":
        return world.thing_of(part[1]).start
    # A mark that isn't the world's own is that of a box or a lamp, which begins shut or out.
    return starts.get(part[1], 0)


def value_of(stand, part):
    for pair in stand:
        if pair[0] == part:
            return pair[1]
    return None


def at_of(stand, name):
    return value_of(stand, ("at", name))


def mark_of(stand, name):
    return value_of(stand, ("mark", name))


def with_part(stand, part, value):
    return tuple([(part, value) if pair[0] == part else pair for pair in stand])


def is_stand(world, thing):
    parts = world.parts()
    if not isinstance(thing, tuple) or len(thing) != len(parts):
        return False
    for pair, part in zip(thing, parts):
        if not is_two(pair) or not is_part(pair[0], part) or not is_value(world, part, pair[1]):
            return False
    return all([comes_to_room(thing, name) for name in world.names()])


def is_two(thing):
    return isinstance(thing, tuple) and len(thing) == 2


def is_part(thing, part):
    return is_two(thing) and is_same_text(thing[0], part[0]) and is_same_text(thing[1], part[1])


def is_value(world, part, value):
    if part[0] == "mark":
        return is_whole(value) and 0 <= value <= world.most_of(part[1])
    return is_holder(world, part[1], value)


def is_holder(world, name, value):
    holder = world.thing_of(value) if isinstance(value, str) else None
    if holder is None:
        return False
    if name == world.you():
        return holder.kind == "room"
    return holder.can_hold()


def comes_to_room(stand, name):
    # Only rooms are at nothing. A way up that has more steps than there are pairs goes round in a ring.
    above = at_of(stand, name)
    for steps in range(len(stand)):
        if above is None:
            return True
        above = at_of(stand, above)
    return above is None
