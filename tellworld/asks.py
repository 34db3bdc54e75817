"""Tests: what a rule asks of a stand and a command, and on which parts that hangs (points 16, 18).

Nothing is refused here: a test may be made with anything, and a world asks whether it is right.
"""

from tellworld.seeing import has, is_lit, is_seen, room_of
from tellworld.stands import at_of, mark_of


class Test:
    pass


class At(Test):
    def __init__(self, term, place):
        self.term = term
        self.place = place

    def holds(self, world, stand, command):
        name = meant(world, stand, command, self.term)
        above = at_of(stand, name)
        # A room is at nothing, so it is not at a place that means nothing either.
        return above is not None and above == meant(world, stand, command, self.place)

    def reads(self, world, it, other):
        parts = at_parts(world, given(self.term, it, other))
        if "here" in (self.term, self.place):
            parts = parts + at_parts(world, world.you())
        return tidy(parts)

    def told(self):
        return ("at", self.term, self.place)


class Has(Test):
    def __init__(self, term):
        self.term = term

    def holds(self, world, stand, command):
        return has(world, stand, meant(world, stand, command, self.term))

    def reads(self, world, it, other):
        return tidy(at_parts(world, given(self.term, it, other)) + box_parts(world))

    def told(self):
        return ("has", self.term)


class Seen(Test):
    def __init__(self, term):
        self.term = term

    def holds(self, world, stand, command):
        return is_seen(world, stand, meant(world, stand, command, self.term))

    def reads(self, world, it, other):
        return tidy(at_parts(world, given(self.term, it, other)) + light_parts(world))

    def told(self):
        return ("seen", self.term)


class Marked(Test):
    def __init__(self, term, value):
        self.term = term
        self.value = value

    def holds(self, world, stand, command):
        shown = mark_of(stand, meant(world, stand, command, self.term))
        return shown is not None and shown == self.value

    def reads(self, world, it, other):
        return tidy(mark_parts(world, given(self.term, it, other)))

    def told(self):
        return ("marked", self.term, self.value)


class Kind(Test):
    def __init__(self, term, kind):
        self.term = term
        self.kind = kind

    def holds(self, world, stand, command):
        thing = world.thing_of(meant(world, stand, command, self.term))
        return thing is not None and thing.kind == self.kind

    def reads(self, world, it, other):
        return ()

    def told(self):
        return ("kind", self.term, self.kind)


class Word(Test):
    def __init__(self, word):
        self.word = word

    def holds(self, world, stand, command):
        # Of other forms the text in that place is a thing's name, which may be spelt like a way's word.
        return is_of_way(world, command) and command[1] == self.word

    def reads(self, world, it, other):
        return ()

    def told(self):
        return ("word", self.word)


class Lit(Test):
    def holds(self, world, stand, command):
        return is_lit(world, stand)

    def reads(self, world, it, other):
        return tidy(light_parts(world))

    def told(self):
        return ("lit",)


class Not(Test):
    def __init__(self, inner):
        self.inner = inner

    def holds(self, world, stand, command):
        return not self.inner.holds(world, stand, command)

    def reads(self, world, it, other):
        return self.inner.reads(world, it, other)

    def told(self):
        return ("not", self.inner.told())


class Both(Test):
    def __init__(self, one, other):
        self.one = one
        self.other = other

    def holds(self, world, stand, command):
        return self.one.holds(world, stand, command) and self.other.holds(world, stand, command)

    def reads(self, world, it, other):
        return tidy(self.one.reads(world, it, other) + self.other.reads(world, it, other))

    def told(self):
        return ("both", self.one.told(), self.other.told())


def test_of(told):
    word = told[0]
    if word == "not":
        return Not(test_of(told[1]))
    if word == "both":
        return Both(test_of(told[1]), test_of(told[2]))
    if word == "at":
        return At(told[1], told[2])
    if word == "has":
        return Has(told[1])
    if word == "seen":
        return Seen(told[1])
    if word == "marked":
        return Marked(told[1], told[2])
    if word == "kind":
        return Kind(told[1], told[2])
    if word == "word":
        return Word(told[1])
    return Lit()


def is_of_way(world, command):
    verb = None if command is None else world.verb_of(command[0])
    return verb is not None and verb.form == "way"


def things_of(world, command):
    if command is None or is_of_way(world, command):
        return (None, None)
    return (command[1], command[2])


def meant(world, stand, command, term):
    # None where the command has no such thing, so that no test of it holds and no deed to it is done.
    if term == "here":
        return room_of(world, stand)
    if term == "it":
        return things_of(world, command)[0]
    if term == "other":
        return things_of(world, command)[1]
    return term


def given(term, it, other):
    # Without a stand it isn't known which room here is; None does for it, as rooms have no parts.
    if term == "it":
        return it
    if term == "other":
        return other
    return None if term == "here" else term


def at_parts(world, name):
    thing = world.thing_of(name)
    return [] if thing is None or thing.kind == "room" else [("at", name)]


def mark_parts(world, name):
    return [] if world.most_of(name) is None else [("mark", name)]


def box_parts(world):
    return [("at", name) for name in world.of_kind("box")]


def light_parts(world):
    names = world.of_kind("box") + world.of_kind("lamp")
    marks = [("mark", name) for name in names]
    return [("at", name) for name in names + [world.you()]] + marks


def tidy(parts):
    return tuple(sorted(set(parts)))
