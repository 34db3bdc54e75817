"""Rules: of which verb, what is asked, what is done and what is said, and which of them a world lets by (point 19).

A rule, a test or a deed may be made with anything; whether it is right is asked when a world is made of it.
"""

from tellworld.asks import At, Both, Has, Kind, Lit, Marked, Not, Seen, Word
from tellworld.deeds import Move, Put
from tellworld.things import KINDS
from tellworld.words import is_list_up_to, is_name, is_one_of, is_same_text, is_whole, is_word

MOST_TESTS = 5
MOST_DEEDS = 4
MOST_DEEP = 4
MOST_SIGNS = 60
# It and other may be any thing of a command, so the bound is that of all marks.
MOST_BY_COMMAND = 3


class Rule:
    def __init__(self, verb, tests, deeds, text, refuses=False):
        self.verb = verb
        self.tests = own_list(tests)
        self.deeds = own_list(deeds)
        self.text = text
        self.refuses = refuses


def own_list(thing):
    # A copy, so that what is done later to the list that was handed in doesn't change the rule;
    # what is no list stays as it is, for the world to refuse.
    return list(thing) if isinstance(thing, list) else thing


def copy_of(rule):
    return Rule(rule.verb, rule.tests, rule.deeds, rule.text, rule.refuses)


def is_rule(world, rule):
    if not isinstance(rule, Rule) or not is_verb_name(world, rule.verb) or not is_said(rule.text):
        return False
    form = world.verb_of(rule.verb).form
    return are_tests(world, form, rule.tests) and are_deeds(world, form, rule.deeds) and does_or_refuses(rule)


def is_verb_name(world, thing):
    # A rule names its verb by its name alone, though a world finds a verb by its other names too.
    return is_name(thing) and world.verb_of(thing) is not None and world.verb_of(thing).name == thing


def is_said(text):
    return isinstance(text, str) and 1 <= len(text) <= MOST_SIGNS


def does_or_refuses(rule):
    return isinstance(rule.refuses, bool) and (not rule.refuses or rule.deeds == [])


def are_tests(world, form, tests):
    return is_list_up_to(tests, MOST_TESTS) and all([is_test(world, form, test, MOST_DEEP) for test in tests])


def are_deeds(world, form, deeds):
    return is_list_up_to(deeds, MOST_DEEDS) and all([is_deed(world, form, deed) for deed in deeds])


def is_wish(world, thing):
    # A wish is asked without a command, so no form is there that lets by it, other, here or a word.
    return is_test(world, None, thing, MOST_DEEP)


def is_test(world, form, test, deep):
    # Asked from the top, so that a test far too deep, or one within itself, is left behind at once.
    if deep == 0:
        return False
    if isinstance(test, Not):
        return is_test(world, form, test.inner, deep - 1)
    if isinstance(test, Both):
        return is_test(world, form, test.one, deep - 1) and is_test(world, form, test.other, deep - 1)
    return is_plain_test(world, form, test)


def is_plain_test(world, form, test):
    if isinstance(test, At):
        return is_term(world, form, test.term) and is_place(world, form, test.place)
    if isinstance(test, (Has, Seen)):
        return is_term(world, form, test.term)
    if isinstance(test, Marked):
        return is_mark_value(world, form, test.term, test.value)
    if isinstance(test, Kind):
        return is_term(world, form, test.term) and is_one_of(test.kind, KINDS)
    if isinstance(test, Word):
        return form == "way" and is_word(test.word)
    return isinstance(test, Lit)


def is_deed(world, form, deed):
    if isinstance(deed, Put):
        return is_mark_value(world, form, deed.term, deed.value)
    return isinstance(deed, Move) and is_move(world, form, deed)


def is_move(world, form, move):
    if not is_moved(world, form, move.term) or not is_place(world, form, move.place):
        return False
    # You are never anywhere but right in a room.
    return move.term != world.you() or is_of_kind(world, move.place, "room")


def is_by_command(form, thing):
    if is_same_text(thing, "it"):
        return form in ("one", "two")
    return is_same_text(thing, "other") and form == "two"


def is_here(form, thing):
    return form is not None and is_same_text(thing, "here")


def named(world, thing):
    return world.thing_of(thing) if isinstance(thing, str) else None


def is_of_kind(world, thing, kind):
    return named(world, thing) is not None and named(world, thing).kind == kind


def is_term(world, form, thing):
    return is_by_command(form, thing) or is_here(form, thing) or named(world, thing) is not None


def is_place(world, form, thing):
    if is_by_command(form, thing) or is_here(form, thing):
        return True
    return named(world, thing) is not None and named(world, thing).can_hold()


def is_moved(world, form, thing):
    if is_by_command(form, thing):
        return True
    return named(world, thing) is not None and not is_of_kind(world, thing, "room")


def is_mark_value(world, form, term, value):
    if not is_whole(value) or value < 0:
        return False
    if is_by_command(form, term):
        return value <= MOST_BY_COMMAND
    most = world.most_of(term) if isinstance(term, str) else None
    return most is not None and value <= most
