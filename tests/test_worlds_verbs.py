"""Points 3, 11 and 12: verbs, and the words of verbs, ways and things beside each other."""

import unittest

from cellar import cellar_parts
from refusals import WorldCase
from strange import strange_values
from tellworld.things import Thing, Verb

COMMON = ("take", "drop", "open", "shut", "light", "douse", "put", "go", "wait")
FORMS = ("alone", "one", "two", "way")
NO_NAMES = (
    "it", "other", "here", "the", "a", "undo", "restart", "", "ninesigns", "Pull", "pull1", "pull up", " pull", "-",
)


def verbs_with(verb):
    return cellar_parts()["verbs"] + [verb]


def things_with(*words):
    return cellar_parts()["things"] + [Thing("gem", words, "plain", "hall")]


class Verbs(WorldCase):
    def test_bound(self):
        verbs = [Verb("v" * count) for count in range(1, 8)]
        for count in (0, 1, 6):
            self.let_by(verbs=verbs[:count])
        self.refused(verbs=verbs)

    def test_each_form(self):
        for form in FORMS:
            joining = "with" if form == "two" else None
            self.let_by(verbs=verbs_with(Verb("pull", (), form, joining)))
            self.let_by(verbs=verbs_with(Verb("pull", ("tug", "drag"), form, joining)))

    def test_many_other_names(self):
        self.let_by(verbs=[Verb("v", tuple("w" * count for count in range(1, 9)) + tuple("xyz"))])

    def test_no_names(self):
        self.let_by(verbs=verbs_with(Verb("eightsig")))
        for name in NO_NAMES:
            self.refused(verbs=verbs_with(Verb(name)))

    def test_no_other_names(self):
        self.let_by(verbs=verbs_with(Verb("pull", ("eightsig",))))
        for name in NO_NAMES:
            self.refused(verbs=verbs_with(Verb("pull", (name,))))
            self.refused(verbs=verbs_with(Verb("pull", ("tug", name))))

    def test_names_of_any_kind(self):
        for name in strange_values():
            self.refused(verbs=verbs_with(Verb(name)))
            self.refused(verbs=verbs_with(Verb("pull", (name,))))

    def test_other_names_as_no_tuple(self):
        for others in (["tug"], [], "tug", "", {"tug": 1}, {}, 0, False, True, 1.5, object()):
            self.refused(verbs=verbs_with(Verb("pull", others)))
        self.let_by(verbs=verbs_with(Verb("pull", ("tug",))))
        self.let_by(verbs=verbs_with(Verb("pull", ())))

    def test_forms(self):
        for form in ("", "One", "three", "none", "ways", "it"):
            self.refused(verbs=verbs_with(Verb("pull", (), form)))
        for form in strange_values():
            self.refused(verbs=verbs_with(Verb("pull", (), form)))
            self.refused(verbs=verbs_with(Verb("pull", (), form, "with")))

    def test_joining_word_of_form_two(self):
        for word in ("with", "in", "to", "it", "here", "b" * 12):
            self.let_by(verbs=verbs_with(Verb("pull", (), "two", word)))
        for word in ("", "the", "a", "With", "b" * 13, "up to", "undo", "restart"):
            self.refused(verbs=verbs_with(Verb("pull", (), "two", word)))
        for word in strange_values():
            self.refused(verbs=verbs_with(Verb("pull", (), "two", word)))

    def test_joining_word_of_other_forms(self):
        for form in ("alone", "one", "way"):
            self.let_by(verbs=verbs_with(Verb("pull", (), form, None)))
            for word in ("with", "", "-", 0, False, [], ()):
                self.refused(verbs=verbs_with(Verb("pull", (), form, word)))

    def test_alike(self):
        self.refused(verbs=verbs_with(Verb("rub")))
        self.refused(verbs=verbs_with(Verb("bind")))
        self.refused(verbs=verbs_with(Verb("pull", ("rub",))))
        self.refused(verbs=verbs_with(Verb("pull", ("bind",))))
        self.refused(verbs=verbs_with(Verb("pull", ("pull",))))
        self.refused(verbs=verbs_with(Verb("pull", ("tug", "tug"))))
        verb = Verb("pull")
        self.refused(verbs=[verb, verb])
        self.let_by(verbs=[verb])

    def test_like_the_common_ones(self):
        for name in COMMON:
            self.refused(verbs=verbs_with(Verb(name)))
            self.refused(verbs=verbs_with(Verb("pull", (name,))))


class WordsBesideEachOther(WorldCase):
    def test_verbs_names_as_words_of_things(self):
        self.let_by(things=things_with("gem"))
        for word in COMMON + ("rub", "tie", "bind", "climb", "sing"):
            self.refused(things=things_with(word))
            self.refused(things=things_with("red", word))

    def test_joining_words_as_words_of_things(self):
        for word in ("in", "to"):
            self.refused(things=things_with(word))
            self.refused(things=things_with("red", word))
        self.let_by(things=things_with("to"), verbs=[])
        self.refused(things=things_with("in"), verbs=[])

    def test_ways_words_as_words_of_things(self):
        self.refused(things=things_with("up"))
        self.refused(things=things_with("red", "down"))
        self.let_by(things=things_with("up"), ways=[])
        self.refused(ways=[("hall", "coin", "cellar", None)])
        self.refused(ways=[("hall", "oak", "cellar", None)])

    def test_words_of_rooms_and_you_may_be_any(self):
        things = [thing for thing in cellar_parts()["things"] if thing.name != "me"]
        for word in ("take", "in", "to", "up", "down", "rub", "bind", "undo", "restart"):
            self.let_by(things=cellar_parts()["things"] + [Thing("attic", (word,), "room")])
            self.let_by(things=things + [Thing("me", (word,), "you", "hall")])
        self.let_by(ways=[("hall", "cellar", "cellar", None)])
        self.let_by(ways=[("hall", "me", "cellar", None)])
        self.let_by(verbs=verbs_with(Verb("hall")))

    def test_things_of_each_other_kind(self):
        for kind in ("plain", "fixed", "box", "lamp"):
            things = cellar_parts()["things"] + [Thing("gem", ("up",), kind, "hall")]
            self.refused(things=things)
            self.let_by(things=things, ways=[])

    def test_names_of_things_may_be_any(self):
        things = cellar_parts()["things"]
        for name in ("take", "in", "to", "up", "rub", "bind"):
            self.let_by(things=things + [Thing(name, ("gem",), "plain", "hall")])

    def test_undo_and_restart(self):
        for word in ("undo", "restart"):
            self.refused(ways=[("hall", word, "cellar", None)])
            self.refused(verbs=verbs_with(Verb(word)))
            self.refused(verbs=verbs_with(Verb("pull", (word,))))
            self.refused(verbs=verbs_with(Verb("pull", (), "two", word)))
            self.let_by(things=things_with(word))

    def test_ways_words_as_verbs_names(self):
        for word in COMMON + ("rub", "tie", "bind", "climb", "sing"):
            self.refused(ways=[("hall", word, "cellar", None)])
        self.let_by(ways=[("hall", "rub", "cellar", None)], verbs=[])

    def test_joining_words_as_verbs_names(self):
        for word in COMMON + ("rub", "bind", "pull"):
            self.refused(verbs=verbs_with(Verb("pull", (), "two", word)))
        self.refused(verbs=verbs_with(Verb("to")))
        self.refused(verbs=verbs_with(Verb("pull", ("to",))))

    def test_joining_word_of_the_common_verbs_as_a_verbs_name(self):
        self.refused(verbs=[Verb("in")])
        self.refused(verbs=[Verb("pull", ("in",))])
        self.let_by(verbs=[Verb("into")])

    def test_ways_words_and_joining_words_may_be_alike(self):
        self.let_by(ways=[("hall", "in", "cellar", None), ("cellar", "to", "hall", None)])
        self.let_by(verbs=verbs_with(Verb("pull", (), "two", "to")))
        self.let_by(ways=[("hall", "up", "cellar", None), ("cellar", "up", "hall", None)])


if __name__ == "__main__":
    unittest.main()
