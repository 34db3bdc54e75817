"""Commands, and what comes of one at a stand (points 21 to 23)."""

from tellworld.asks import things_of
from tellworld.errors import NoCommand
from tellworld.seeing import is_seen, seen

NOTHING_COMES = "Nothing comes of it."
CANNOT_BE = "That cannot be."


def commands(world):
    told = []
    for verb in world.all_verbs():
        told.extend([(verb.name, first, second) for first, second in objects_of(world, verb.form)])
    return told


def objects_of(world, form):
    if form == "alone":
        return [(None, None)]
    if form == "way":
        return [(word, None) for word in world.way_words()]
    names = [name for name in world.names() if world.thing_of(name).is_plainly()]
    if form == "one":
        return [(name, None) for name in names]
    pairs = []
    for first in names:
        pairs.extend([(first, second) for second in names])
    return pairs


def check_command(world, command):
    if not is_command(world, command):
        raise NoCommand("there is no such command in this world")


def is_command(world, thing):
    if not isinstance(thing, tuple) or len(thing) != 3 or not isinstance(thing[0], str):
        return False
    verb = world.verb_of(thing[0])
    # A command has the verb's name, though a world finds it by its other names too.
    return verb is not None and verb.name == thing[0] and fits_form(world, verb.form, thing[1], thing[2])


def fits_form(world, form, first, second):
    if form == "two":
        return is_object(world, first) and is_object(world, second)
    if second is not None:
        return False
    if form == "way":
        return isinstance(first, str) and first in world.way_words()
    return first is None if form == "alone" else is_object(world, first)


def is_object(world, thing):
    found = world.thing_of(thing) if isinstance(thing, str) else None
    return found is not None and found.is_plainly()


def step(world, stand, command):
    check_command(world, command)
    in_sight = [name for name in things_of(world, command) if is_seen(world, stand, name)]
    return answered(world, stand, command, in_sight)


def all_steps(world, stand, every):
    # What is seen hangs on the stand alone, so it is asked once for all of the commands.
    in_sight = seen(world, stand)
    return [answered(world, stand, command, in_sight) for command in every]


def goings(world, stand, every):
    # Only what is told leads on: every other answer leaves the stand as it was.
    steps = all_steps(world, stand, every)
    return [(command, result[1]) for command, result in zip(every, steps) if result[0][0] == "told"]


def answered(world, stand, command, in_sight):
    for name in things_of(world, command):
        if name is not None and name not in in_sight:
            return (("unseen", name), stand)
    for rule in world.rules_to_try(command[0]):
        if fits(world, stand, command, rule):
            return outcome(world, stand, command, rule)
    return (("refused", NOTHING_COMES), stand)


def fits(world, stand, command, rule):
    for test in rule.tests:
        if not test.holds(world, stand, command):
            return False
    return True


def outcome(world, stand, command, rule):
    if rule.refuses:
        return (("refused", rule.text), stand)
    behind = stand
    for deed in rule.deeds:
        behind = deed.done(world, behind, command)
        if behind is None:
            return (("refused", CANNOT_BE), stand)
    return (("told", rule.text), behind)
