"""Worlds, wishes and stands that are drawn by a fixed seed, for what holds of all of them."""

import random

from tellworld.asks import At, Both, Has, Kind, Lit, Marked, Not, Seen, Word
from tellworld.deeds import Move, Put
from tellworld.rules import Rule
from tellworld.stands import is_stand
from tellworld.things import KINDS, Mark, Thing, Verb
from tellworld.worlds import World

BESIDE = (("chest", "box"), ("bag", "box"), ("torch", "lamp"), ("coin", "plain"), ("altar", "fixed"))
WAY_WORDS = ("up", "down", "in")


class Parts:
    """What a drawn world is made of, ahead of its rules."""

    def __init__(self, draw):
        self.rooms = ["hall", "loft", "yard"][:draw.choice([1, 2, 2, 3])]
        self.beside = draw.sample(BESIDE, draw.choice([1, 2, 3]))
        self.marks = [Mark("tide", draw.choice([0, 1, 2]), 2),
            Mark("door", draw.choice([0, 1]), 1)][:draw.choice([0, 1, 2])]
        self.holders = self.rooms + ["me"]
        self.things = [Thing(name, (name,), "room") for name in self.rooms]
        self.things.append(Thing("me", ("me",), "you", draw.choice(self.rooms)))
        for name, kind in self.beside:
            words = (name,) + tuple(draw.sample(["old", "small"], draw.choice([0, 1, 2])))
            self.things.append(Thing(name, words, kind, draw.choice(self.holders)))
            if kind == "box":
                self.holders.append(name)
        draw.shuffle(self.things)
        self.mosts = {mark.name: mark.most for mark in self.marks}
        self.mosts.update({name: 1 for name, kind in self.beside if kind in ("box", "lamp")})
        self.names = [thing.name for thing in self.things]


def drawn_world(draw):
    parts = Parts(draw)
    ways = []
    for room in parts.rooms:
        for word in draw.sample(WAY_WORDS, draw.choice([0, 1, 2])):
            ways.append((room, word, draw.choice(parts.rooms), draw.choice([None, None] + list(parts.mosts))))
    verbs = [Verb("rub", ("pat",)), Verb("tie", (), "two", "to"), Verb("climb", (), "way"), Verb("sing", (), "alone")]
    draw.shuffle(verbs)
    dark = [room for room in parts.rooms if draw.random() < 0.3]
    forms = {verb.name: verb.form for verb in verbs}
    forms.update({"take": "one", "go": "way", "put": "two", "wait": "alone", "open": "one"})
    rules = [drawn_rule(draw, parts, forms) for count in range(draw.choice([0, 2, 4, 6]))]
    return World(parts.things, parts.marks, dark, ways, verbs, rules)


def drawn_rule(draw, parts, forms):
    verb = draw.choice(sorted(forms))
    form = forms[verb]
    tests = [drawn_test(draw, parts, form, 3) for count in range(draw.choice([0, 1, 1, 2]))]
    if draw.random() < 0.25:
        return Rule(verb, tests, [], "No, " + verb + ".", True)
    deeds = [drawn_deed(draw, parts, form) for count in range(draw.choice([0, 1, 1, 2]))]
    return Rule(verb, tests, deeds, draw.choice(["Done so.", "Well.", "Ho."]))


def terms(form):
    if form is None:
        return []
    return ["here"] + {"one": ["it", "it"], "two": ["it", "other"]}.get(form, [])


def drawn_test(draw, parts, form, deep):
    sorts = ["at", "has", "seen", "marked", "kind", "lit"]
    if form == "way":
        sorts.append("word")
    if deep > 1:
        sorts.extend(["not", "both"])
    sort = draw.choice(sorts)
    term = draw.choice(terms(form) + parts.names)
    if sort == "at":
        return At(term, draw.choice(terms(form) + parts.holders))
    if sort == "has":
        return Has(term)
    if sort == "seen":
        return Seen(term)
    if sort == "marked" and parts.mosts:
        return drawn_marked(draw, parts, form, Marked)
    if sort == "kind":
        return Kind(term, draw.choice(KINDS))
    if sort == "word":
        return Word(draw.choice(WAY_WORDS))
    if sort == "not":
        return Not(drawn_test(draw, parts, form, deep - 1))
    if sort == "both":
        return Both(drawn_test(draw, parts, form, deep - 1), drawn_test(draw, parts, form, deep - 1))
    return Lit()


def drawn_marked(draw, parts, form, made):
    term = draw.choice([term for term in terms(form) if term != "here"] + sorted(parts.mosts))
    return made(term, draw.randint(0, parts.mosts.get(term, 3)))


def drawn_deed(draw, parts, form):
    if parts.mosts and draw.random() < 0.5:
        return drawn_marked(draw, parts, form, Put)
    if draw.random() < 0.2:
        return Move("me", draw.choice(parts.rooms))
    moved = [term for term in terms(form) if term != "here"] + [name for name, kind in parts.beside]
    return Move(draw.choice(moved), draw.choice(terms(form) + parts.holders))


def drawn_worlds(seed, count):
    draw = random.Random(seed)
    return [drawn_world(draw) for number in range(count)]


class Told:
    """What drawn_test asks for, of a world that is there."""

    def __init__(self, world):
        self.names = world.names()
        self.holders = [name for name in self.names if world.thing_of(name).can_hold()]
        self.mosts = {part[1]: world.most_of(part[1]) for part in world.parts() if part[0] == "mark"}


def drawn_wishes(world, seed, count):
    draw = random.Random(seed)
    return [drawn_test(draw, Told(world), None, draw.choice([1, 1, 2, 3, 4])) for number in range(count)]


def drawn_value(draw, world, part):
    if part[0] == "mark":
        return draw.randint(0, world.most_of(part[1]))
    if part[1] == world.you():
        return draw.choice(world.of_kind("room"))
    return draw.choice(Told(world).holders)


def drawn_stands(world, seed, count):
    draw = random.Random(seed)
    stands = []
    while len(stands) < count:
        stand = tuple((part, drawn_value(draw, world, part)) for part in world.parts())
        if is_stand(world, stand):
            stands.append(stand)
    return stands
