import unittest

from tellworld.things import Mark, Thing, Verb

KINDS = ("room", "plain", "fixed", "box", "lamp", "you")


def of_kind(kind):
    return Thing("thing", ("thing",), kind, None if kind == "room" else "hall")


class Things(unittest.TestCase):
    def test_fields_as_handed_in(self):
        thing = Thing("torch", ("old", "torch"), "lamp", "hall")
        self.assertEqual(vars(thing), {"name": "torch", "words": ("old", "torch"), "kind": "lamp", "start": "hall"})

    def test_start_left_out(self):
        thing = Thing("hall", ("hall",), "room")
        self.assertEqual(vars(thing), {"name": "hall", "words": ("hall",), "kind": "room", "start": None})

    def test_can_hold(self):
        for kind in KINDS:
            with self.subTest(kind=kind):
                self.assertIs(of_kind(kind).can_hold(), kind in ("room", "box", "you"))

    def test_has_mark(self):
        for kind in KINDS:
            with self.subTest(kind=kind):
                self.assertIs(of_kind(kind).has_mark(), kind in ("box", "lamp"))

    def test_is_plainly(self):
        for kind in KINDS:
            with self.subTest(kind=kind):
                self.assertIs(of_kind(kind).is_plainly(), kind in ("plain", "fixed", "box", "lamp"))

    def test_two_things_are_apart(self):
        one = Thing("one", ("one",), "plain", "hall")
        two = Thing("two", ("two",), "box", "one")
        self.assertEqual((one.name, one.words, one.kind, one.start), ("one", ("one",), "plain", "hall"))
        self.assertEqual((two.name, two.words, two.kind, two.start), ("two", ("two",), "box", "one"))

    def test_making_refuses_nothing(self):
        strange = ("", None, 3, True, ["lamp"], {"lamp": 1}, ("the", "the"))
        for value in strange:
            with self.subTest(value=value):
                thing = Thing(value, value, value, value)
                self.assertEqual((thing.name, thing.words, thing.kind, thing.start), (value, value, value, value))

    def test_what_is_handed_in_is_not_changed(self):
        words = ["old", "torch"]
        Thing("torch", words, "lamp", "hall")
        self.assertEqual(words, ["old", "torch"])


class Marks(unittest.TestCase):
    def test_fields_as_handed_in(self):
        self.assertEqual(vars(Mark("tide", 2, 3)), {"name": "tide", "start": 2, "most": 3})
        self.assertEqual(vars(Mark("door", 0, 1)), {"name": "door", "start": 0, "most": 1})

    def test_making_refuses_nothing(self):
        mark = Mark("The Door", -1, True)
        self.assertEqual((mark.name, mark.start), ("The Door", -1))
        self.assertIs(mark.most, True)


class Verbs(unittest.TestCase):
    def test_fields_as_handed_in(self):
        verb = Verb("tie", ("bind", "knot"), "two", "to")
        self.assertEqual(vars(verb), {"name": "tie", "others": ("bind", "knot"), "form": "two", "joining": "to"})

    def test_all_left_out(self):
        verb = Verb("rub")
        self.assertEqual(vars(verb), {"name": "rub", "others": (), "form": "one", "joining": None})

    def test_form_and_joining_left_out(self):
        verb = Verb("rub", ("wipe",))
        self.assertEqual(vars(verb), {"name": "rub", "others": ("wipe",), "form": "one", "joining": None})

    def test_joining_left_out(self):
        for form in ("alone", "one", "two", "way"):
            with self.subTest(form=form):
                verb = Verb("rub", (), form)
                self.assertEqual(vars(verb), {"name": "rub", "others": (), "form": form, "joining": None})

    def test_others_none_is_left_out(self):
        verb = Verb("jump", None, "alone")
        self.assertEqual((verb.others, verb.form), ((), "alone"))

    def test_making_refuses_nothing(self):
        verb = Verb("the", ("the", "the"), "three", 5)
        self.assertEqual((verb.name, verb.others, verb.form, verb.joining), ("the", ("the", "the"), "three", 5))


if __name__ == "__main__":
    unittest.main()
