"""Holders, light and sight: what is within what, and what you see of it (point 15)."""

from tellworld.stands import at_of, mark_of


def holders_of(world, stand, name):
    holders = []
    above = at_of(stand, name)
    while above is not None:
        holders.append(above)
        above = at_of(stand, above)
    return holders


def room_of(world, stand):
    return at_of(stand, world.you())


def in_open(world, stand, name, holder):
    for above in holders_of(world, stand, name):
        # Asked ahead of the lid: the holder up to which is asked may itself be shut.
        if above == holder:
            return True
        if is_shut(world, stand, above):
            return False
    return False


def is_shut(world, stand, name):
    return world.thing_of(name).kind == "box" and mark_of(stand, name) == 0


def has(world, stand, name):
    return world.you() in holders_of(world, stand, name)


def is_lit(world, stand):
    room = room_of(world, stand)
    if not world.is_dark(room):
        return True
    return any([burns_in(world, stand, lamp, room) for lamp in world.of_kind("lamp")])


def burns_in(world, stand, lamp, room):
    return mark_of(stand, lamp) == 1 and in_open(world, stand, lamp, room)


def is_seen(world, stand, name):
    thing = world.thing_of(name)
    if thing is None or not thing.is_plainly():
        return False
    if in_open(world, stand, name, world.you()):
        return True
    return in_open(world, stand, name, room_of(world, stand)) and is_lit(world, stand)


def seen(world, stand):
    return sorted([name for name in world.names() if is_seen(world, stand, name)])
