"""Whether what a world is made of is right, but for its rules (points 3, 8 to 12); what isn't is refused with NoWorld.

Names, words, kinds and starts may be anything at all here, so the kind of each is asked ahead of its value.
"""

from tellworld.errors import NoWorld
from tellworld.things import FORMS, KINDS, Mark, Thing, Verb
from tellworld.words import is_list_up_to, is_name, is_one_of, is_whole, is_word

MOST_ROOMS = 5
MOST_BESIDE = 7
MOST_MARKS = 4
MOST_OF_MARK = 3
MOST_WAYS = 10
MOST_VERBS = 6
MOST_WORDS = 4
# What a player says to more than the world, or what is left out of a row.
NO_WORDS_OF_ROWS = ("the", "a", "undo", "restart")


def refuse_unless(right, words):
    if not right:
        raise NoWorld(words)


def check_parts(things, marks, dark, ways, verbs, common):
    check_things(things)
    check_marks(marks)
    check_names(things, marks)
    check_starts(things)
    check_words_of_things(things)
    rooms = [thing.name for thing in things if thing.kind == "room"]
    check_dark(dark, rooms)
    check_ways(ways, rooms, mark_names(things, marks))
    check_verbs(verbs)
    check_vocabulary(things, ways, verbs + common)


def check_things(things):
    right = isinstance(things, list) and all([isinstance(thing, Thing) for thing in things])
    refuse_unless(right, "things are a list of things")
    refuse_unless(all([is_one_of(thing.kind, KINDS) for thing in things]), "a thing is of no kind")
    refuse_unless(1 <= count_of(things, "room") <= MOST_ROOMS, "a world has 1 to 5 rooms")
    refuse_unless(count_of(things, "you") == 1, "a world has just one you")
    refuse_unless(len(plain_ones(things)) <= MOST_BESIDE, "a world has at most 7 things beside rooms and you")


def count_of(things, kind):
    return len([thing for thing in things if thing.kind == kind])


def plain_ones(things):
    return [thing for thing in things if thing.is_plainly()]


def check_marks(marks):
    right = is_list_up_to(marks, MOST_MARKS) and all([is_mark(mark) for mark in marks])
    refuse_unless(right, "marks are a list of at most 4 marks, each from 0 to at most 3")


def is_mark(mark):
    if not isinstance(mark, Mark) or not is_whole(mark.start) or not is_whole(mark.most):
        return False
    return 1 <= mark.most <= MOST_OF_MARK and 0 <= mark.start <= mark.most


def check_names(things, marks):
    names = [thing.name for thing in things] + [mark.name for mark in marks]
    refuse_unless(all([is_name(name) for name in names]), "a name is no name")
    refuse_unless(are_unlike(names), "two things or marks have one name")


def are_unlike(texts):
    return len(set(texts)) == len(texts)


def mark_names(things, marks):
    return [thing.name for thing in things if thing.has_mark()] + [mark.name for mark in marks]


def check_starts(things):
    refuse_unless(all([is_start(things, thing) for thing in things]), "a start is none")
    starts = {}
    for thing in things:
        starts[thing.name] = thing.start
    refuse_unless(all([comes_to_room(starts, name) for name in starts]), "a thing starts within itself")


def is_start(things, thing):
    if thing.kind == "room":
        return thing.start is None
    if thing.kind == "you":
        return is_one_of(thing.start, [holder.name for holder in things if holder.kind == "room"])
    return is_one_of(thing.start, [holder.name for holder in things if holder.can_hold()])


def comes_to_room(starts, name):
    above = starts[name]
    # Only rooms start at nothing. A way up that has more steps than there are things goes round in a ring.
    for steps in range(len(starts)):
        if above is None:
            return True
        above = starts[above]
    return above is None


def check_words_of_things(things):
    refuse_unless(all([are_words(thing.words) for thing in things]), "a thing has 1 to 4 unlike words, as a tuple")
    plain = plain_ones(things)
    refuse_unless(all([is_told_apart(plain, thing) for thing in plain]), "one thing has all words of another")


def are_words(words):
    if not isinstance(words, tuple) or not 1 <= len(words) <= MOST_WORDS:
        return False
    return all([is_word(word) for word in words]) and are_unlike(words)


def is_told_apart(things, thing):
    others = [other for other in things if other.name != thing.name]
    return not any([has_all(other.words, thing.words) for other in others])


def has_all(words, wanted):
    return all([word in words for word in wanted])


def check_dark(dark, rooms):
    right = isinstance(dark, list) and all([is_one_of(name, rooms) for name in dark]) and are_unlike(dark)
    refuse_unless(right, "dark is a list of rooms' names, each once")


def check_ways(ways, rooms, marks):
    right = is_list_up_to(ways, MOST_WAYS) and all([is_way(way, rooms, marks) for way in ways])
    refuse_unless(right, "ways are a list of at most 10 tuples (room, word, room, mark)")
    refuse_unless(are_unlike([(way[0], way[1]) for way in ways]), "two ways lead from one room by one word")


def is_way(way, rooms, marks):
    if not isinstance(way, tuple) or len(way) != 4:
        return False
    is_by_mark = way[3] is None or is_one_of(way[3], marks)
    return is_one_of(way[0], rooms) and is_word(way[1]) and is_one_of(way[2], rooms) and is_by_mark


def check_verbs(verbs):
    right = is_list_up_to(verbs, MOST_VERBS) and all([is_verb(verb) for verb in verbs])
    refuse_unless(right, "verbs are a list of at most 6 verbs")


def is_verb(verb):
    if not isinstance(verb, Verb) or not is_name(verb.name) or not isinstance(verb.others, tuple):
        return False
    if not all([is_name(name) for name in verb.others]) or not is_one_of(verb.form, FORMS):
        return False
    return is_word(verb.joining) if verb.form == "two" else verb.joining is None


def check_vocabulary(things, ways, verbs):
    of_things = []
    for thing in plain_ones(things):
        of_things.extend(thing.words)
    of_verbs = []
    for verb in verbs:
        of_verbs.extend((verb.name,) + verb.others)
    between = [verb.joining for verb in verbs if verb.joining is not None] + [way[1] for way in ways]
    refuse_unless(are_unlike(of_verbs), "two verbs' names are alike")
    refuse_unless(are_apart(of_verbs + between, of_things), "a verb's, way's or joining word is a word of a thing")
    refuse_unless(are_apart(of_verbs + between, NO_WORDS_OF_ROWS), "the, a, undo or restart is a word of the world")
    refuse_unless(are_apart(between, of_verbs), "a way's or joining word is a verb's name")


def are_apart(words, others):
    return not any([word in others for word in words])
