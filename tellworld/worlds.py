"""Worlds: what is there, and by which rules it goes (points 3, 8 to 13, 19, 20, 23)."""

from tellworld.checks import check_parts, mark_names, refuse_unless
from tellworld.common import common_rules, common_verbs
from tellworld.rules import copy_of, is_rule
from tellworld.words import is_list_up_to

MOST_RULES = 20


class World:
    def __init__(self, things, marks, dark, ways, verbs, rules):
        check_parts(things, marks, dark, ways, verbs, common_verbs())
        self.kept_things = list(things)
        self.kept_marks = list(marks)
        self.kept_dark = list(dark)
        self.kept_ways = list(ways)
        self.kept_verbs = list(verbs)
        self.shared_verbs = common_verbs()
        self.your_name = self.of_kind("you")[0]
        self.things_by_name = by_name(things)
        self.mosts_by_name = mosts_by_name(things, marks)
        self.verbs_by_word = verbs_by_word(self.all_verbs())
        # Rules are asked about last, of a world that can already tell its things, marks and verbs.
        right = is_list_up_to(rules, MOST_RULES) and all([is_rule(self, rule) for rule in rules])
        refuse_unless(right, "rules are a list of at most 20 rules, each as it may be")
        self.kept_rules = list(rules)
        self.shared_rules = common_rules(self.your_name, ways)
        # Copies, so that what is done later to the lists within a rule that was handed in changes nothing.
        self.copied_rules = [copy_of(rule) for rule in rules]
        self.rules_by_verb = by_verb(self.copied_rules + self.shared_rules)

    def names(self):
        return [thing.name for thing in self.kept_things]

    def thing_of(self, name):
        return self.things_by_name.get(name)

    def of_kind(self, kind):
        return [thing.name for thing in self.kept_things if thing.kind == kind]

    def you(self):
        return self.your_name

    def is_dark(self, room):
        return room in self.kept_dark

    def most_of(self, name):
        return self.mosts_by_name.get(name)

    def own_marks(self):
        return list(self.kept_marks)

    def own_ways(self):
        return list(self.kept_ways)

    def own_verbs(self):
        return list(self.kept_verbs)

    def own_rules(self):
        return list(self.kept_rules)

    def dark_rooms(self):
        return list(self.kept_dark)

    def way_words(self):
        return sorted(set([way[1] for way in self.kept_ways]))

    def all_verbs(self):
        return self.kept_verbs + self.shared_verbs

    def verb_of(self, word):
        return self.verbs_by_word.get(word)

    def rules_of(self, name):
        own = [rule for rule in self.kept_rules if rule.verb == name]
        return own + [copy_of(rule) for rule in self.shared_rules if rule.verb == name]

    def rules_to_try(self, name):
        # What rules_of tells, but as the world's own copies of them, which are only to be read.
        return list(self.rules_by_verb.get(name, []))

    def rules_to_write(self):
        # What own_rules tells, but as the world's own copies, which are only to be read.
        return list(self.copied_rules)

    def parts(self):
        at = [("at", thing.name) for thing in self.kept_things if thing.kind != "room"]
        marks = [("mark", name) for name in mark_names(self.kept_things, self.kept_marks)]
        return sorted(at + marks)


def by_name(things):
    named = {}
    for thing in things:
        named[thing.name] = thing
    return named


def mosts_by_name(things, marks):
    mosts = {}
    for thing in things:
        if thing.has_mark():
            mosts[thing.name] = 1
    for mark in marks:
        mosts[mark.name] = mark.most
    return mosts


def verbs_by_word(verbs):
    found = {}
    for verb in verbs:
        for word in (verb.name,) + verb.others:
            found[word] = verb
    return found


def by_verb(rules):
    found = {}
    for rule in rules:
        found.setdefault(rule.verb, []).append(rule)
    return found
