"""A world whose things share words, for what is read and asked."""

from tellworld.things import Thing, Verb
from tellworld.worlds import World


def parlour_things():
    return [
        Thing("parlour", ("parlour",), "room"),
        Thing("loft", ("loft",), "room"),
        Thing("me", ("me",), "you", "parlour"),
        # The names don't sort like the order they stand in, nor like their words.
        Thing("sphere", ("red", "ball"), "plain", "parlour"),
        Thing("globe", ("blue", "small", "ball"), "plain", "parlour"),
        Thing("ruby", ("red", "small", "gem"), "plain", "me"),
        Thing("trunk", ("red", "chest"), "box", "parlour"),
        Thing("case", ("blue", "chest"), "box", "parlour"),
        Thing("pearl", ("white", "ball"), "plain", "loft"),
        Thing("dust", ("grey", "dust"), "plain", "trunk"),
    ]


def parlour_verbs():
    return [
        Verb("rub", ("stroke", "pat")),
        Verb("tie", ("bind",), "two", "to"),
        Verb("climb", ("scale",), "way"),
        Verb("sing", ("hum",), "alone"),
    ]


def parlour_world(rules=()):
    ways = [("parlour", "up", "loft", None), ("loft", "down", "parlour", None)]
    return World(parlour_things(), [], [], ways, parlour_verbs(), list(rules))
