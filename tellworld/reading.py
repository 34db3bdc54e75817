"""Rows of words, read to commands at a stand; and the own row of a command (points 24, 25)."""

from tellworld.seeing import seen
from tellworld.steps import check_command
from tellworld.words import words_of


def read(world, stand, row):
    words = words_of(row)
    first = words[0] if len(words) > 0 else ""
    verb = world.verb_of(first)
    if verb is None:
        return ("noverb", first)
    phrases = phrases_of(verb, words[1:])
    if phrases is None:
        return ("noform", verb.name)
    if verb.form == "way":
        return read_way(world, verb, phrases[0][0])
    return read_things(world, stand, verb, phrases)


def phrases_of(verb, words):
    # None where the words aren't of the verb's form.
    if verb.form == "alone":
        return () if len(words) == 0 else None
    if verb.form == "two":
        return phrases_about(words, verb.joining)
    if verb.form == "way":
        return (words,) if len(words) == 1 else None
    return (words,) if len(words) > 0 else None


def phrases_about(words, joining):
    if joining not in words:
        return None
    place = words.index(joining)
    phrases = (words[:place], words[place + 1:])
    return None if () in phrases else phrases


def read_way(world, verb, word):
    if word not in world.way_words():
        return ("noway", word)
    return ("command", (verb.name, word, None))


def read_things(world, stand, verb, phrases):
    in_sight = seen(world, stand)
    things = []
    for phrase in phrases:
        names = [name for name in in_sight if has_words(world, name, phrase)]
        if len(names) == 0:
            return ("none", phrase)
        if len(names) > 1:
            return ("which", phrase, tuple(names))
        things.append(names[0])
    first_and_second = things + [None, None]
    return ("command", (verb.name, first_and_second[0], first_and_second[1]))


def has_words(world, name, phrase):
    return all([word in world.thing_of(name).words for word in phrase])


def own_row(world, command):
    check_command(world, command)
    verb = world.verb_of(command[0])
    if verb.form == "way":
        return " ".join((verb.name, command[1]))
    words = (verb.name,)
    if command[1] is not None:
        words = words + world.thing_of(command[1]).words
    if command[2] is not None:
        words = words + (verb.joining,) + world.thing_of(command[2]).words
    return " ".join(words)


def longer_row(world, row, phrase, words):
    # Of two phrases with the same words the first one was asked of, as it is read ahead of the second.
    asked = words_of(row)
    first = phrases_of(world.verb_of(asked[0]), asked[1:])[0]
    end = 1 + len(first) if first == phrase else len(asked)
    return " ".join(asked[:end] + words + asked[end:])
