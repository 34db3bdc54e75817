"""Wishes of the cellar world, and what is none."""

from strange import strange_values
from tellworld.asks import At, Both, Has, Kind, Lit, Marked, Not, Seen, Word
from tellworld.deeds import Move, Put


def deep(test, count):
    for number in range(count):
        test = Not(test)
    return test


def right_wishes():
    return [
        At("coin", "bag"), At("coin", "me"), At("me", "hall"), At("hall", "hall"), At("torch", "cellar"), Has("coin"),
        Has("hall"), Has("me"), Seen("altar"), Seen("hall"), Seen("me"), Marked("tide", 0), Marked("tide", 3),
        Marked("door", 1), Marked("chest", 1), Marked("torch", 0), Kind("coin", "plain"), Kind("me", "you"),
        Kind("hall", "lamp"), Lit(), Not(Lit()), Both(Lit(), Has("coin")), deep(Lit(), 3), deep(Has("coin"), 3),
        Not(Both(Not(Lit()), Both(Lit(), Lit()))), Both(Both(Both(Lit(), Lit()), Lit()), deep(Lit(), 2)),
    ]


def plain_wrong_wishes():
    return [
        At("it", "hall"), At("other", "hall"), At("here", "hall"), At("coin", "it"), At("coin", "other"),
        At("coin", "here"), At("me", "here"), Has("it"), Has("other"), Has("here"), Seen("it"), Seen("other"),
        Seen("here"), Marked("it", 0), Marked("other", 0), Marked("here", 0), Kind("it", "plain"),
        Kind("other", "plain"), Kind("here", "room"), Word("up"), Word("down"), Word("nowhere"),
        # Names that are none of a thing, or of a mark.
        At("nobody", "hall"), At("tide", "hall"), At("coin", "nobody"), At("coin", "torch"), At("coin", "altar"),
        At("coin", "coin"), At("coin", "tide"), Has("nobody"), Has("tide"), Has("door"), Seen("tide"), Seen(""),
        Marked("coin", 0), Marked("hall", 0), Marked("me", 0), Marked("nobody", 0), Kind("tide", "plain"),
        Kind("nobody", "plain"),
        # Values and kinds that are none.
        Marked("tide", 4), Marked("tide", -1), Marked("door", 2), Marked("chest", 2), Marked("torch", -1),
        Marked("door", True), Marked("door", False), Marked("door", 1.0), Marked("door", "1"), Marked("door", None),
        Kind("coin", "thing"), Kind("coin", "Plain"), Kind("coin", None), Kind("coin", ""),
    ]


def wrong_wishes():
    wrong = plain_wrong_wishes() + [thing for thing in strange_values() if not isinstance(thing, Has)]
    within = [Not(one) for one in wrong] + [Both(one, Lit()) for one in wrong] + [Both(Lit(), one) for one in wrong]
    within.extend([Not(Both(Not(one), Lit())) for one in wrong])
    ring = Not(Lit())
    ring.inner = ring
    fields = [At("coin", one) for one in strange_values()] + [At(one, "hall") for one in strange_values()]
    fields.extend([Has(one) for one in strange_values()] + [Seen(one) for one in strange_values()])
    fields.extend([Marked(one, 0) for one in strange_values()] + [Kind(one, "plain") for one in strange_values()])
    fields.extend([Kind("coin", one) for one in strange_values()])
    fields.extend([Marked("tide", one) for one in strange_values() if one.__class__ is not int or one not in (0, 1)])
    too_deep = [deep(Lit(), 4), deep(Lit(), 60), ring, Both(deep(Lit(), 3), Lit()), Both(Lit(), deep(Lit(), 3)),
                Not(Both(Lit(), Both(Lit(), Not(Lit())))), Move("coin", "hall"), Put("tide", 0), "lit", ("lit",), Lit]
    return wrong + within + fields + too_deep
