"""Values of many kinds, to hand in where anything may be handed in."""

from tellworld.asks import At, Has, Test
from tellworld.deeds import Deed, Move
from tellworld.rules import Rule
from tellworld.things import Mark, Thing, Verb


class EqualToAll:
    def __eq__(self, other):
        return True

    def __hash__(self):
        return 0


class FailsAtEquals:
    def __eq__(self, other):
        raise RuntimeError("asked")

    def __hash__(self):
        raise RuntimeError("asked")


def strange_values():
    return [
        None, True, False, 0, 1, -3, 10**30, 1.5, float("nan"), "", "no such", "Hall", b"hall", [], ["hall"], [[]],
        (), ("hall",), ([], []), {}, {"at": "me"}, set(), object(), EqualToAll(), FailsAtEquals(), len, Thing, At,
        Test(), Deed(), Has("coin"), Move("coin", "hall"), Thing("hall", ("hall",), "room"), Mark("tide", 2, 3),
        Verb("rub"), Rule("rub", [], [], "Rubbed."),
    ]
