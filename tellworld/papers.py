"""Papers: whether what was written down shows that a wish is never met, or by no fewer commands (points 33, 34).

A paper may be anything at all, so the kind of each thing in it is asked ahead of its value.
"""

from tellworld.folds import check_wish, commands_on, fold, is_closed, lifted
from tellworld.stands import is_part, is_stand, is_two
from tellworld.steps import goings, is_command
from tellworld.words import is_whole


def never_holds(world, stand, wish, paper):
    check_wish(world, wish)
    if not is_tuple_of_lists(paper, 2) or not are_parts(world, wish, paper[0]):
        return False
    parts = paper[0]
    if not all([is_fold(world, parts, folded) for folded in paper[1]]):
        return False
    depths = dict([(folded, 0) for folded in paper[1]])
    if fold(stand, parts) not in depths or is_met_among(world, wish, depths):
        return False
    every = commands_on(world, parts)
    return all([stays_among(world, every, parts, depths, folded, 0) for folded in depths])


def rows_hold(world, stand, wish, paper):
    check_wish(world, wish)
    if not is_tuple_of_lists(paper, 3) or not are_parts(world, wish, paper[1]):
        return False
    walk = paper[0]
    parts = paper[1]
    if not all([is_command(world, command) for command in walk]) or not are_depths(world, parts, paper[2]):
        return False
    depths = dict(paper[2])
    # Folds that are come to by all commands but the last one, or more, may lead anywhere.
    inner = [folded for folded in depths if depths[folded] + 1 < len(walk)]
    every = commands_on(world, parts)
    return (
        (len(walk) == 0 or depths.get(fold(stand, parts)) == 0)
        and not is_met_among(world, wish, depths)
        and all([stays_among(world, every, parts, depths, folded, depths[folded] + 1) for folded in inner])
        and leads_to(world, stand, wish, walk)
    )


def is_tuple_of_lists(thing, count):
    return isinstance(thing, tuple) and len(thing) == count and all([isinstance(one, list) for one in thing])


def are_parts(world, wish, parts):
    if not all([is_part_of(world, part) for part in parts]):
        return False
    return parts == sorted(set(parts)) and is_closed(world, wish, parts)


def is_part_of(world, thing):
    return any([is_part(thing, part) for part in world.parts()])


def is_fold(world, parts, thing):
    if not isinstance(thing, tuple) or len(thing) != len(parts):
        return False
    if not all([is_two(pair) and is_part(pair[0], part) for pair, part in zip(thing, parts)]):
        return False
    return is_stand(world, lifted(world, thing))


def are_depths(world, parts, depths):
    if not all([is_two(pair) and is_fold(world, parts, pair[0]) and is_depth(pair[1]) for pair in depths]):
        return False
    return len(dict(depths)) == len(depths)


def is_depth(thing):
    return is_whole(thing) and thing >= 0


def is_met_among(world, wish, folds):
    return any([wish.holds(world, lifted(world, folded), None) for folded in folds])


def stays_among(world, every, parts, depths, folded, most):
    # A command that isn't told leaves the fold as it is, and so among them.
    for command, behind in goings(world, lifted(world, folded), every):
        depth = depths.get(fold(behind, parts))
        if depth is None or depth > most:
            return False
    return True


def leads_to(world, stand, wish, walk):
    here = stand
    for command in walk:
        found = goings(world, here, [command])
        if len(found) == 0:
            return False
        here = found[0][1]
    return wish.holds(world, here, None)
