"""Walkthroughs: what is left to a wish behind each row, and where it is lost (points 35 to 37)."""

from tellworld.folds import check_wish
from tellworld.players import Player
from tellworld.search import find
from tellworld.stands import first_stand

NEVER = ("never",)


def left(world, stand, wish, most):
    found = find(world, stand, wish, most)
    if found[0] == "rows":
        return ("in", len(found[1]))
    return (found[0],)


def judge(world, rows, wish, most):
    # Asked first, since without rows nothing else would ask.
    check_wish(world, wish)
    player = Player(world)
    known = {}
    told = []
    for row in rows:
        answer = player.say(row)
        here = player.stand()
        # Rows that aren't told, and undo, come to the same stands again.
        if here not in known:
            known[here] = left(world, here, wish, most)
        told.append((answer, known[here]))
    return told


def lost(world, rows, wish, most):
    if left(world, first_stand(world), wish, most) == NEVER:
        return -1
    for number, judged in enumerate(judge(world, rows, wish, most)):
        if judged[1] == NEVER:
            return number
    return None
