"""Whether two worlds of one vocabulary answer alike, and where they part (points 38 to 40)."""

from tellworld.errors import Unlike
from tellworld.stands import first_stand, is_stand, is_two
from tellworld.steps import all_steps, commands


def answer_alike(one, stand, other, other_stand):
    check_vocabulary(one, other)
    return parting(steps_of_both(one, other, commands(one), (stand, other_stand))) is None


def parted(one, other, most):
    check_vocabulary(one, other)
    every = commands(one)
    nearer = {}
    layer = {first_pair(one, other): []}
    while len(layer) > 0 and len(nearer) <= most:
        fresh = {}
        for pair in layer:
            steps = steps_of_both(one, other, every, pair)
            command = parting(steps)
            if command is not None:
                return ("commands", layer[pair] + [command])
            for told, behind in pairs_behind(steps):
                if behind not in nearer and behind not in layer:
                    fresh.setdefault(behind, layer[pair] + [told])
        nearer.update(layer)
        layer = fresh
    return ("alike", list(nearer)) if len(nearer) <= most else ("more",)


def tie_holds(one, other, pairs):
    check_vocabulary(one, other)
    if not isinstance(pairs, list) or not all([is_pair(one, other, pair) for pair in pairs]):
        return False
    known = dict([(pair, True) for pair in pairs])
    if first_pair(one, other) not in known:
        return False
    every = commands(one)
    return all([is_tied(steps_of_both(one, other, every, pair), known) for pair in known])


def check_vocabulary(one, other):
    if vocabulary(one) != vocabulary(other):
        raise Unlike("the worlds have two vocabularies")


def vocabulary(world):
    things = [world.thing_of(name) for name in world.names()]
    of_things = [(thing.name, thing.words, side_of(thing)) for thing in things]
    of_verbs = [(verb.name, verb.others, verb.form, verb.joining) for verb in world.all_verbs()]
    return (of_things, of_verbs, world.way_words())


def side_of(thing):
    return "neither" if thing.is_plainly() else thing.kind


def first_pair(one, other):
    return (first_stand(one), first_stand(other))


def is_pair(one, other, thing):
    return is_two(thing) and is_stand(one, thing[0]) and is_stand(other, thing[1])


def steps_of_both(one, other, every, pair):
    return list(zip(every, all_steps(one, pair[0], every), all_steps(other, pair[1], every)))


def parting(steps):
    # The first command that is answered otherwise. What is seen needs no look of its own: of a thing
    # that is seen in one world alone, take is answered unseen in the other one alone.
    for command, result, other_result in steps:
        if result[0] != other_result[0]:
            return command
    return None


def pairs_behind(steps):
    # Of steps that are answered alike: what is told in one is told in both, and all else leads nowhere.
    return [(command, (result[1], another[1])) for command, result, another in steps if result[0][0] == "told"]


def is_tied(steps, known):
    return parting(steps) is None and all([behind in known for command, behind in pairs_behind(steps)])
