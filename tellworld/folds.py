"""Wishes, what matters for one, and stands folded to that (points 29 to 31)."""

from tellworld.asks import Seen, things_of
from tellworld.errors import NoWish
from tellworld.rules import is_wish
from tellworld.stands import first_stand
from tellworld.steps import commands


def check_wish(world, wish):
    if not is_wish(world, wish):
        raise NoWish("a wish is a test without it, other, here and Word, at most 4 deep")


def matters(world, wish):
    check_wish(world, wish)
    every = commands(world)
    ahead = []
    parts = sorted(wish.reads(world, None, None))
    while parts != ahead:
        ahead = parts
        parts = sorted(set(ahead + all_needs(world, every, ahead)))
    return parts


def is_closed(world, wish, parts):
    check_wish(world, wish)
    needed = list(wish.reads(world, None, None)) + all_needs(world, commands(world), parts)
    return all([part in parts for part in needed])


def all_needs(world, every, parts):
    needed = []
    for command in every:
        needed.extend(needs(world, command, parts))
    return needed


def needs(world, command, parts):
    # What decides whether the command changes one of the parts, and to what.
    changing = changing_places(world, command, parts)
    if len(changing) == 0:
        return []
    things = things_of(world, command)
    rules = world.rules_to_try(command[0])
    needed = []
    for name in things:
        if name is not None:
            needed.extend(Seen(name).reads(world, None, None))
    for rule in rules[:changing[-1] + 1]:
        needed.extend(reads_of(world, rule.tests, things))
    for place in changing:
        needed.extend(reads_of(world, rules[place].deeds, things))
    return needed


def commands_on(world, parts):
    # Every other command leaves each fold by the parts as it is, and need not be tried.
    return [command for command in commands(world) if len(changing_places(world, command, parts)) > 0]


def changing_places(world, command, parts):
    things = things_of(world, command)
    rules = world.rules_to_try(command[0])
    return [place for place, rule in enumerate(rules) if changes(world, rule, things, parts)]


def changes(world, rule, things, parts):
    return any([deed.change(world, things[0], things[1]) in parts for deed in rule.deeds])


def reads_of(world, asked, things):
    found = []
    for one in asked:
        found.extend(one.reads(world, things[0], things[1]))
    return found


def fold(stand, parts):
    return tuple([pair for pair in stand if pair[0] in parts])


def lifted(world, folded):
    values = dict(first_stand(world))
    values.update(dict(folded))
    return tuple([(part, values[part]) for part in world.parts()])
