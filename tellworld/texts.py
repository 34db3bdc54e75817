"""Worlds written as texts, and read from them (points 41, 42)."""

from tellworld.asks import test_of
from tellworld.deeds import deed_of
from tellworld.errors import NoText
from tellworld.rules import MOST_DEEP, Rule
from tellworld.things import Mark, Thing, Verb
from tellworld.words import MOST_IN_WORD, is_small_letters
from tellworld.worlds import World

NOTHING = "-"
MOST_FIGURES = 3
# A row stands behind none of a greater number; when and then belong to their rule.
ORDER = {"thing": 0, "mark": 1, "dark": 2, "way": 3, "verb": 4, "rule": 5, "when": 5, "then": 5}
# What follows the first word of a test or a deed.
TESTS = {
    "at": ("word", "word"),
    "has": ("word",),
    "seen": ("word",),
    "marked": ("word", "number"),
    "kind": ("word", "word"),
    "word": ("word",),
    "lit": (),
    "not": ("test",),
    "both": ("test", "test"),
}
DEEDS = {"move": ("word", "word"), "put": ("word", "number")}


def world_text(world):
    rows = [thing_row(world.thing_of(name)) for name in world.names()]
    rows.extend([row_of(("mark", mark.name, mark.start, mark.most)) for mark in world.own_marks()])
    rows.extend([row_of(("dark", name)) for name in world.dark_rooms()])
    rows.extend([row_of(("way",) + way) for way in world.own_ways()])
    rows.extend([row_of(("verb", verb.name, verb.form, verb.joining) + verb.others) for verb in world.own_verbs()])
    for rule in world.rules_to_write():
        rows.extend(rule_rows(rule))
    return "\n".join(rows)


def row_of(words):
    return " ".join([NOTHING if word is None else str(word) for word in words])


def thing_row(thing):
    return row_of(("thing", thing.name, thing.kind, thing.start) + thing.words)


def rule_rows(rule):
    rows = [row_of(("rule", rule.verb, "refuses" if rule.refuses else "does", rule.text))]
    rows.extend([row_of(("when",) + flat(test.told())) for test in rule.tests])
    rows.extend([row_of(("then",) + flat(deed.told())) for deed in rule.deeds])
    return rows


def flat(told):
    words = ()
    for one in told:
        words = words + (flat(one) if isinstance(one, tuple) else (one,))
    return words


def read_world(text):
    if not isinstance(text, str):
        raise NoText(0)
    found = []
    ahead = "thing"
    for number, row in enumerate(text.split("\n")):
        words = row.split(" ")
        value = read_row(words[0], words[1:]) if may_follow(ahead, words[0]) else None
        if value is None:
            raise NoText(number)
        found.append((words[0], value))
        ahead = words[0]
    return world_of(found)


def may_follow(ahead, kind):
    if kind == "when":
        return ahead in ("rule", "when")
    if kind == "then":
        return ahead in ("rule", "when", "then")
    return kind in ORDER and ORDER[kind] >= ORDER[ahead]


def world_of(found):
    rules = []
    for kind, value in found:
        if kind == "rule":
            rules.append(value)
        if kind == "when":
            rules[-1].tests.append(value)
        if kind == "then":
            rules[-1].deeds.append(value)
    things = of_kind(found, "thing")
    marks = of_kind(found, "mark")
    return World(things, marks, of_kind(found, "dark"), of_kind(found, "way"), of_kind(found, "verb"), rules)


def of_kind(found, wanted):
    return [value for kind, value in found if kind == wanted]


def read_row(kind, words):
    # What the row tells of, or None where the words aren't of its form.
    if kind == "thing":
        return read_thing(words)
    if kind == "mark":
        return read_mark(words)
    if kind == "dark":
        return words[0] if len(words) == 1 and are_letters(words) else None
    if kind == "way":
        return read_way(words)
    if kind == "verb":
        return read_verb(words)
    if kind == "rule":
        return read_rule(words)
    return read_test(words) if kind == "when" else read_deed(words)


def are_letters(words):
    return all([is_small_letters(word, MOST_IN_WORD) for word in words])


def is_number(word):
    # Compared sign by sign, since isdigit lets figures beyond ASCII by.
    if not 1 <= len(word) <= MOST_FIGURES or not all(["0" <= sign <= "9" for sign in word]):
        return False
    return word == "0" or word[0] != "0"


def are_letters_but(words, place):
    # At the place what stands for None may stand, too.
    return are_letters(words[:place] + words[place + 1:]) and (words[place] == NOTHING or are_letters([words[place]]))


def or_none(word):
    return None if word == NOTHING else word


def read_thing(words):
    if len(words) < 4 or not are_letters_but(words, 2):
        return None
    return Thing(words[0], tuple(words[3:]), words[1], or_none(words[2]))


def read_mark(words):
    if len(words) != 3 or not are_letters(words[:1]) or not is_number(words[1]) or not is_number(words[2]):
        return None
    return Mark(words[0], int(words[1]), int(words[2]))


def read_way(words):
    if len(words) != 4 or not are_letters_but(words, 3):
        return None
    return (words[0], words[1], words[2], or_none(words[3]))


def read_verb(words):
    if len(words) < 3 or not are_letters_but(words, 2):
        return None
    return Verb(words[0], tuple(words[3:]), words[1], or_none(words[2]))


def read_rule(words):
    # The text may hold blanks anywhere, so it is put together again.
    text = " ".join(words[2:])
    if text == "" or not are_letters(words[:1]) or words[1] not in ("does", "refuses"):
        return None
    return Rule(words[0], [], [], text, words[1] == "refuses")


def read_test(words):
    found = test_ahead(words, MOST_DEEP)
    return None if found is None or len(found[1]) > 0 else test_of(found[0])


def read_deed(words):
    if len(words) == 0 or words[0] not in DEEDS:
        return None
    found = told_ahead(words, DEEDS[words[0]], 0)
    return None if found is None or len(found[1]) > 0 else deed_of(found[0])


def test_ahead(words, deep):
    if deep == 0 or len(words) == 0 or words[0] not in TESTS:
        return None
    return told_ahead(words, TESTS[words[0]], deep - 1)


def told_ahead(words, sorts, deep):
    # What the first words tell, of these sorts behind the first one, and the words behind them; or None.
    told = (words[0],)
    rest = words[1:]
    for sort in sorts:
        found = test_ahead(rest, deep) if sort == "test" else value_ahead(rest, sort)
        if found is None:
            return None
        told = told + (found[0],)
        rest = found[1]
    return (told, rest)


def value_ahead(words, sort):
    if len(words) == 0:
        return None
    if sort == "number":
        return (int(words[0]), words[1:]) if is_number(words[0]) else None
    return (words[0], words[1:]) if are_letters(words[:1]) else None
