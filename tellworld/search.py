"""The fewest commands to a wish, or that none lead to it, with what shows it (point 32)."""

from tellworld.folds import commands_on, fold, matters
from tellworld.steps import goings


def find(world, stand, wish, most):
    parts = matters(world, wish)
    if wish.holds(world, stand, None):
        return ("rows", [], parts, [])
    every = commands_on(world, parts)
    walks = {fold(stand, parts): []}
    layer = [(stand, [])]
    while len(layer) > 0 and len(walks) <= most:
        fresh = next_layer(world, every, layer, parts, walks)
        for goal in fresh.values():
            if wish.holds(world, goal[0], None):
                return ("rows", goal[1], parts, depths_of(walks))
        for folded in fresh:
            walks[folded] = fresh[folded][1]
        layer = list(fresh.values())
    if len(layer) > 0:
        return ("more",)
    return ("never", parts, list(walks))


def next_layer(world, every, layer, parts, walks):
    fresh = {}
    for stand, walk in layer:
        for command, behind in goings(world, stand, every):
            folded = fold(behind, parts)
            if folded not in walks and folded not in fresh:
                fresh[folded] = (behind, walk + [command])
    return fresh


def depths_of(walks):
    return [(folded, len(walks[folded])) for folded in walks]
