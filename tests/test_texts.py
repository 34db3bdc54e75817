"""Points 41 and 42: worlds written as texts, and texts read as worlds."""

import unittest

from cellar import cellar_world
from drawn import drawn_worlds
from parlour import parlour_world
from strange import strange_values
from tellworld.asks import At, Both, Has, Kind, Lit, Marked, Not, Seen, Word
from tellworld.deeds import Move, Put
from tellworld.errors import NoText, NoWorld
from tellworld.rules import Rule
from tellworld.stands import first_stand
from tellworld.steps import commands, step
from tellworld.texts import read_world, world_text
from tellworld.things import Mark, Thing, Verb
from tellworld.ties import parted
from tellworld.worlds import World

BARE = "thing hall room - hall\nthing me you hall me"
WHOLE = """thing hall room - hall great
thing cellar room - cellar
thing me you hall me myself
thing chest box hall oak chest
thing torch lamp chest torch
thing coin plain me small gold coin
thing altar fixed cellar altar
mark tide 2 3
mark door 0 1
dark cellar
dark hall
way hall down cellar door
way cellar up hall -
way hall in hall chest
verb rub one -
verb tie two to bind knot
verb climb way - scale
verb sing alone - hum chant croon
rule rub does You rub it, and wait...
rule rub refuses No.
when at it here
when has it
when seen coin
rule take does Aha!
when kind it lamp
then move it me
then put it 1"""


def whole_world():
    parts = {
        "things": [
            Thing("hall", ("hall", "great"), "room"), Thing("cellar", ("cellar",), "room"),
            Thing("me", ("me", "myself"), "you", "hall"), Thing("chest", ("oak", "chest"), "box", "hall"),
            Thing("torch", ("torch",), "lamp", "chest"), Thing("coin", ("small", "gold", "coin"), "plain", "me"),
            Thing("altar", ("altar",), "fixed", "cellar"),
        ],
        "marks": [Mark("tide", 2, 3), Mark("door", 0, 1)],
        "dark": ["cellar", "hall"],
        "ways": [("hall", "down", "cellar", "door"), ("cellar", "up", "hall", None), ("hall", "in", "hall", "chest")],
        "verbs": [Verb("rub"), Verb("tie", ("bind", "knot"), "two", "to"), Verb("climb", ("scale",), "way"),
                  Verb("sing", ("hum", "chant", "croon"), "alone")],
        "rules": [
            Rule("rub", [], [], "You rub it, and wait..."),
            Rule("rub", [At("it", "here"), Has("it"), Seen("coin")], [], "No.", True),
            Rule("take", [Kind("it", "lamp")], [Move("it", "me"), Put("it", 1)], "Aha!"),
        ],
    }
    return cellar_world(**parts)


def told_of(world):
    """All that a world is made of, without its objects."""
    return (
        [(one.name, one.words, one.kind, one.start) for one in map(world.thing_of, world.names())],
        [(one.name, one.start, one.most) for one in world.own_marks()], world.dark_rooms(), world.own_ways(),
        [(one.name, one.others, one.form, one.joining) for one in world.own_verbs()],
        [(one.verb, [test.told() for test in one.tests], [deed.told() for deed in one.deeds], one.text, one.refuses)
         for one in world.own_rules()],
    )


class Written(unittest.TestCase):
    def is_written(self, world, text):
        told = world_text(world)
        self.assertEqual(told.split("\n"), text.split("\n"))
        self.assertEqual(told, text)
        self.assertIs(told.__class__, str)
        again = read_world(told)
        self.assertEqual(told_of(again), told_of(world))
        self.assertEqual(world_text(again), told)

    def rule_is_written(self, rule, *rows):
        self.is_written(cellar_world(rules=[rule]), "\n".join((world_text(cellar_world()),) + rows))

    def test_the_least_world(self):
        world = World([Thing("hall", ("hall",), "room"), Thing("me", ("me",), "you", "hall")], [], [], [], [], [])
        self.is_written(world, BARE)

    def test_rows_of_all_kinds(self):
        self.is_written(whole_world(), WHOLE)

    def test_things_in_the_order_of_the_world(self):
        world = World([Thing("me", ("me",), "you", "hall"), Thing("hall", ("hall",), "room")], [], [], [], [], [])
        self.is_written(world, "thing me you hall me\nthing hall room - hall")

    def test_marks_of_boxes_and_lamps_are_not_written(self):
        things = [Thing("hall", ("hall",), "room"), Thing("me", ("me",), "you", "hall"),
            Thing("bag", ("bag",), "box", "me")]
        self.is_written(World(things, [], [], [], [], []), BARE + "\nthing bag box me bag")
        self.is_written(World(things, [Mark("moon", 1, 1)], [], [], [], []),
            BARE + "\nthing bag box me bag\nmark moon 1 1")

    def test_each_test(self):
        for test, written in (
            (At("it", "here"), "at it here"), (At("coin", "bag"), "at coin bag"), (At("here", "it"), "at here it"),
            (Has("it"), "has it"), (Seen("coin"), "seen coin"), (Marked("tide", 3), "marked tide 3"),
            (Marked("it", 0), "marked it 0"), (Kind("it", "box"), "kind it box"), (Lit(), "lit"),
            (Not(Lit()), "not lit"),
            (Both(Lit(), Has("it")), "both lit has it"), (Both(Has("it"), Lit()), "both has it lit"),
            (Not(Not(Not(Lit()))), "not not not lit"),
            (Both(Both(Lit(), Not(Has("it"))), Seen("it")), "both both lit not has it seen it"),
            (Both(Seen("it"), Both(Lit(), Not(Has("it")))), "both seen it both lit not has it"),
            (Not(Both(Both(At("it", "me"), Lit()), Both(Lit(), Kind("it", "lamp")))),
             "not both both at it me lit both lit kind it lamp"),
        ):
            self.rule_is_written(Rule("rub", [test], [], "Hm."), "rule rub does Hm.", "when " + written)

    def test_tests_of_other_forms(self):
        self.rule_is_written(Rule("tie", [Has("other"), At("it", "other")], [], "Hm."),
                             "rule tie does Hm.", "when has other", "when at it other")
        self.rule_is_written(Rule("climb", [Word("up"), Not(Word("nowhere"))], [], "Hm."),
                             "rule climb does Hm.", "when word up", "when not word nowhere")

    def test_each_deed(self):
        for deed, written in ((Move("it", "me"), "move it me"), (Move("me", "hall"), "move me hall"),
                              (Move("it", "here"), "move it here"), (Put("tide", 0), "put tide 0"),
                              (Put("it", 3), "put it 3")):
            self.rule_is_written(Rule("rub", [], [deed], "Hm."), "rule rub does Hm.", "then " + written)

    def test_all_tests_ahead_of_all_deeds_each_in_order(self):
        self.rule_is_written(
            Rule("rub", [Lit(), Has("it"), Lit()], [Put("tide", 1), Move("it", "me"), Put("tide", 0)], "Hm."),
            "rule rub does Hm.", "when lit", "when has it", "when lit", "then put tide 1", "then move it me",
            "then put tide 0",
        )

    def test_texts_of_any_signs(self):
        for text in (" ", "  ", " La", "La ", "La  la", "a", "-", "refuses", "does it", "rule rub does x",
            "~!\"#$&'()*+,-./:;",
                     "0123456789 <=>?@ [\\]^_`{|}", "x" * 60, "when lit", "The End."):
            self.rule_is_written(Rule("sing", [], [], text), "rule sing does " + text)
            self.rule_is_written(Rule("sing", [], [], text, True), "rule sing refuses " + text)

    def test_names_like_words_of_the_rows(self):
        things = [Thing("room", ("room",), "room"), Thing("you", ("you",), "you", "room"),
                  Thing("thing", ("thing", "room"), "box", "room"), Thing("at", ("at",), "plain", "thing"),
                  Thing("not", ("not",), "lamp", "you")]
        rules = [Rule("when", [At("at", "thing"), Both(Not(Has("not")), Kind("at", "lamp"))], [Move("at", "thing")],
            "then")]
        world = World(things, [Mark("mark", 0, 1)], ["room"], [("room", "way", "room", "mark")],
                      [Verb("when", ("then", "rule"), "way")], rules)
        self.is_written(world, "\n".join((
            "thing room room - room", "thing you you room you", "thing thing box room thing room",
            "thing at plain thing at",
            "thing not lamp you not", "mark mark 0 1", "dark room", "way room way room mark",
            "verb when way - then rule",
            "rule when does then", "when at at thing", "when both not has not kind at lamp", "then move at thing",
        )))

    def test_lists_of_rules_changed_later(self):
        tests, deeds = [Lit()], [Put("tide", 1)]
        rule = Rule("sing", tests, deeds, "La.")
        rules = [rule]
        world = cellar_world(rules=rules)
        expected = world_text(world)
        for one in (tests, deeds, rules, rule.tests, rule.deeds):
            one.clear()
        self.assertEqual(world_text(world), expected)
        self.assertTrue(expected.endswith("\nrule sing does La.\nwhen lit\nthen put tide 1"))

    def test_worlds_of_all_sorts(self):
        for world in [cellar_world(), parlour_world(), whole_world()] + drawn_worlds(17, 150):
            text = world_text(world)
            self.assertFalse(text.endswith("\n"))
            again = read_world(text)
            self.assertEqual(told_of(again), told_of(world))
            self.assertEqual(world_text(again), text)
            self.assertEqual(first_stand(again), first_stand(world))
            for command in commands(world):
                self.assertEqual(step(again, first_stand(world), command), step(world, first_stand(world), command))

    def test_a_world_read_again_answers_alike(self):
        for world in drawn_worlds(18, 20):
            self.assertIn(parted(world, read_world(world_text(world)), 20)[0], ("alike", "more"))


class Read(unittest.TestCase):
    def test_what_was_written(self):
        self.assertEqual(told_of(read_world(WHOLE)), told_of(whole_world()))
        world = read_world(WHOLE)
        self.assertIs(world.__class__, World)
        self.assertEqual([rule.refuses for rule in world.own_rules()], [False, True, False])
        self.assertIs(world.own_rules()[0].refuses, False)

    def test_each_row_left_out_or_twice_is_no_other_refusal(self):
        rows = WHOLE.split("\n")
        for place in range(len(rows)):
            for other in (rows[:place] + rows[place + 1:], rows[:place] + [rows[place]] + rows[place:]):
                try:
                    text = "\n".join(other)
                    self.assertEqual(world_text(read_world(text)), text)
                except (NoWorld, NoText) as refusal:
                    self.assertIn(refusal.__class__, (NoWorld, NoText))


class RefusedTexts(unittest.TestCase):
    def refused(self, text, row):
        with self.subTest(text=text):
            with self.assertRaises(NoText) as refusal:
                read_world(text)
            self.assertIs(refusal.exception.__class__, NoText)
            self.assertEqual(refusal.exception.row, row)
            self.assertIs(refusal.exception.row.__class__, int)
            self.assertEqual(vars(refusal.exception), {"row": row})

    def wrong_rows(self, head, *rows):
        """Each row alone has none of the forms; so it is refused behind the head, and ahead of what follows."""
        lines = head.split("\n")
        for row in rows:
            self.refused(head + "\n" + row, len(lines))
            self.refused(head + "\n" + row + "\nnonsense\n", len(lines))
            self.refused(row + "\n" + head, 0)

    def test_what_is_no_text(self):
        for thing in strange_values():
            if not isinstance(thing, str):
                self.refused(thing, 0)
        self.refused(WHOLE.encode(), 0)
        self.refused([WHOLE], 0)

    def test_no_signs_and_blanks(self):
        for text in ("", " ", "   ", "\n", "\n\n", "nonsense", "-", "Thing hall room - hall"):
            self.refused(text, 0)

    def test_empty_rows_and_a_line_feed_at_the_end(self):
        rows = WHOLE.split("\n")
        for place in range(len(rows) + 1):
            for empty in ("", " ", "\t"):
                self.refused("\n".join(rows[:place] + [empty] + rows[place:]), place)
        self.refused(WHOLE + "\n", len(rows))
        self.refused(BARE + "\n\n", 2)

    def test_rows_of_no_kind(self):
        self.wrong_rows(BARE, "room hall", "things hall room - hall", "thin hall room - hall", "Mark tide 0 1",
            "marks tide 0 1",
                        "# a remark", "the", "end", "lit", "at it here", "move it me", "0", "-")

    def test_things(self):
        self.wrong_rows(
            BARE, "thing", "thing coin", "thing coin plain", "thing coin plain hall", "thing coin plain hall ",
            "thing  coin plain hall coin", "thing coin plain  hall coin", " thing coin plain hall coin",
            "thing coin plain hall coin ", "thing coin plain hall  coin", "thing Coin plain hall coin",
            "thing coin Plain hall coin",
            "thing coin plain Hall coin", "thing coin plain hall Coin", "thing coin plain hall coin -",
            "thing - plain hall coin",
            "thing coin - hall coin", "thing coin plain - -", "thing coin plain -- coin", "thing coin plain hall co1n",
            "thing coin plain hall coin,", "thing coin plain hall coin\tgold", "thing abcdefghijklm plain hall coin",
            "thing coin abcdefghijklm hall coin", "thing coin plain abcdefghijklm coin",
            "thing coin plain hall abcdefghijklm",
            "thing coin plain hall gold abcdefghijklm", "thing c_in plain hall coin", "thing coin plain 0 coin",
            "thing coin room -",
        )

    def test_marks(self):
        self.wrong_rows(
            BARE, "mark", "mark tide", "mark tide 0", "mark tide 0 1 1", "mark tide 0 1 ", "mark  tide 0 1",
            "mark tide  0 1",
            "mark tide 00 1", "mark tide 0 01", "mark tide 0 001", "mark tide 0000 1", "mark tide 0 1000",
            "mark tide -1 1",
            "mark tide +0 1", "mark tide 0 1.0", "mark tide - 1", "mark tide 0 -", "mark Tide 0 1", "mark - 0 1",
            "mark 0 0 1",
            "mark tide zero one", "mark tide 0 ", "mark tide  1", "mark tide 0 1_0", "mark abcdefghijklm 0 1",
            "mark tide 0 \u0661", "mark tide \u00b2 3",
        )

    def test_dark(self):
        self.wrong_rows(BARE, "dark", "dark ", "dark -", "dark hall hall", "dark  hall", "dark Hall", "dark 1",
            "dark hall ",
                        "dark abcdefghijklm")

    def test_ways(self):
        self.wrong_rows(
            BARE, "way", "way hall", "way hall up", "way hall up hall", "way hall up hall - -",
            "way hall up hall door door",
            "way hall up hall -- ", "way - up hall -", "way hall - hall -", "way hall up - -", "way Hall up hall -",
            "way hall Up hall -", "way hall up hall Door", "way  hall up hall -", "way hall up hall  -",
            "way hall up hall 0",
            "way hall abcdefghijklm hall -", "way hall up hall abcdefghijklm", "way hall up hall none -",
        )

    def test_verbs(self):
        self.wrong_rows(
            BARE, "verb", "verb rub", "verb rub one", "verb rub one - ", "verb rub one - -", "verb rub one  -",
            "verb  rub one -",
            "verb Rub one -", "verb rub One -", "verb tie two To", "verb rub one - Pat", "verb rub one - pat  stroke",
            "verb - one -",
            "verb rub - -", "verb rub one 0", "verb rub one --", "verb rub one - pat -", "verb abcdefghijklm one -",
            "verb rub abcdefghijklm -", "verb tie two abcdefghijklm", "verb rub one - abcdefghijklm",
            "verb rub one - pat1",
        )

    def test_rules(self):
        self.wrong_rows(
            BARE, "rule", "rule wait", "rule wait does", "rule wait does ", "rule wait refuses", "rule wait refuses ",
            "rule wait do Hm.", "rule wait Does Hm.", "rule wait refuse Hm.", "rule  wait does Hm.",
            "rule wait  does Hm.",
            "rule does Hm.", "rule Wait does Hm.", "rule - does Hm.", "rule abcdefghijklm does Hm.", "rule wait - Hm.",
            "rule 1 does Hm.",
        )

    def test_tests(self):
        head = BARE + "\nrule wait does Hm."
        self.wrong_rows(
            head, "when", "when ", "when at", "when at it", "when at it here now", "when has", "when has it it",
            "when seen",
            "when seen it it", "when marked it", "when marked it x", "when marked it ", "when marked it 00",
            "when marked it 1000", "when marked it -1",
            "when marked 1 1", "when marked it 1 1", "when kind it", "when kind it box box", "when word",
            "when word up down",
            "when lit it", "when lit lit", "when not", "when not not", "when not lit lit", "when both", "when both lit",
            "when both lit lit lit", "when both has it", "when both lit not", "when  lit", "when lit ",
            "when not  lit", "when Lit",
            "when has It", "when at it -", "when has abcdefghijklm", "when word abcdefghijklm",
            "when kind it abcdefghijklm",
            "when at it abcdefghijklm", "when move it me", "when put it 1", "when not move it me", "when here",
            "when true",
            "when both lit put it 1", "when and lit lit", "when has 1", "when has -",
        )

    def test_tests_five_deep(self):
        head = BARE + "\nrule wait does Hm."
        self.wrong_rows(
            head, "when not not not not lit", "when not not not not not lit", "when both not not not lit lit",
            "when both lit not not not lit", "when not not not both lit lit",
            "when both lit both lit both lit both lit lit",
            "when both both both both lit lit lit lit lit", "when not both lit not not has me",
            "when " + "not " * 90 + "lit",
        )
        for row in ("when not not not lit", "when both not not lit lit", "when both lit both lit both lit lit",
                    "when both both both lit lit both lit lit both both lit lit both lit lit"):
            text = head + "\n" + row
            self.assertEqual(world_text(read_world(text)), text)

    def test_deeds(self):
        head = BARE + "\nrule wait does Hm."
        self.wrong_rows(
            head, "then", "then ", "then move", "then move it", "then move it me me", "then put it", "then put it x",
            "then put it ", "then put it 01",
            "then put it 1000", "then put it -1", "then put it 1 1", "then  move it me", "then move it me ",
            "then move  it me",
            "then Move it me", "then move It me", "then move it -", "then move abcdefghijklm me", "then put 1 1",
            "then lit",
            "then has it", "then not move it me", "then wait", "then move it 1",
        )

    def test_rows_in_a_wrong_order(self):
        rows = {
            "thing": "thing coin plain hall coin", "mark": "mark tide 0 1", "dark": "dark hall",
            "way": "way hall up hall -",
            "verb": "verb sing alone -", "rule": "rule wait does Hm.",
        }
        kinds = list(rows)
        for place, kind in enumerate(kinds):
            for later in kinds[place + 1:]:
                self.refused("\n".join((BARE, rows[later], rows[kind])), 3)
                # The row ahead of it is right, and the one behind it isn't reached.
                self.refused("\n".join((BARE, rows[later], rows[later], rows[kind], "nonsense")), 4)
            if kind != "rule":
                self.refused("\n".join((BARE, rows["rule"], "when lit", rows[kind])), 4)
                self.refused("\n".join((BARE, rows["rule"], "then move me hall", rows[kind])), 4)
        text = "\n".join([BARE] + list(rows.values()))
        self.assertEqual(world_text(read_world(text)), text)

    def test_when_and_then_in_a_wrong_order(self):
        for row in ("when lit", "then move me hall"):
            self.refused(row, 0)
            self.refused(BARE + "\n" + row, 2)
            for other in ("mark tide 0 1", "dark hall", "way hall up hall -", "verb sing alone -"):
                self.refused("\n".join((BARE, other, row)), 3)
        rule = BARE + "\nrule wait does Hm."
        self.refused(rule + "\nthen move me hall\nwhen lit", 4)
        self.refused(rule + "\nwhen lit\nthen move me hall\nwhen lit", 5)
        for rest in ("", "\nwhen lit", "\nwhen lit\nwhen lit", "\nthen move me hall",
            "\nthen move me hall\nthen move me hall",
                     "\nwhen lit\nthen move me hall", "\nrule wait refuses No.\nwhen lit",
                     "\nwhen lit\nrule wait does Ha.",
                     "\nthen move me hall\nrule wait does Ha.\nwhen lit"):
            self.assertEqual(world_text(read_world(rule + rest)), rule + rest)

    def test_the_first_such_row(self):
        self.refused("thing hall room - hall\nmark tide 0 1\nthing me you hall me\nnonsense\n", 2)
        self.refused("nonsense\n" + WHOLE, 0)
        # A row that makes no world is behind none of the others for it.
        self.refused("thing the nokind nowhere the\ndark hell\nnonsense", 2)

    def test_other_row_ends(self):
        self.refused(BARE.replace("\n", "\r\n"), 0)
        self.refused(BARE.replace("\n", "\r"), 0)
        self.refused(BARE.replace(" ", "\t"), 0)


class NoWorlds(unittest.TestCase):
    """Rows that have the forms, but make no world."""

    def refused(self, text):
        with self.subTest(text=text), self.assertRaises(NoWorld) as refusal:
            read_world(text)
        self.assertIs(refusal.exception.__class__, NoWorld)
        self.assertEqual(vars(refusal.exception), {})

    def let_by(self, text):
        self.assertEqual(world_text(read_world(text)), text)

    def test_things(self):
        self.let_by(BARE + "\nthing coin plain hall coin")
        for row in (
            "thing coin plain - coin", "thing coin room hall coin", "thing coin plain nobody coin",
            "thing coin plain coin coin",
            "thing coin gold hall coin", "thing it plain hall coin", "thing undo plain hall coin",
            "thing abcdefghijkl plain hall coin",
            "thing coin plain hall the", "thing coin plain hall a", "thing coin plain hall coin coin",
            "thing coin plain hall gold red old new big", "thing me plain hall coin", "thing self you hall self",
            "thing coin plain hall take", "thing coin plain hall in",
        ):
            self.refused(BARE + "\n" + row)
        self.refused("thing hall room - hall")
        self.refused("thing me you hall me")

    def test_marks(self):
        self.let_by(BARE + "\nmark tide 0 3")
        for row in ("mark tide 0 4", "mark tide 2 1", "mark tide 0 0", "mark tide 999 999", "mark hall 0 1",
            "mark here 0 1",
                    "mark abcdefghijkl 0 1"):
            self.refused(BARE + "\n" + row)
        self.refused(BARE + "".join(f"\nmark {name} 0 1" for name in "bcdef"))

    def test_dark_and_ways(self):
        self.let_by(BARE + "\ndark hall\nway hall up hall -")
        for row in ("dark me", "dark nobody", "dark hall\ndark hall", "way hall up nobody -", "way me up hall -",
                    "way hall up hall door", "way hall the hall -", "way hall undo hall -", "way hall wait hall -",
                    "way hall up hall -\nway hall up hall -"):
            self.refused(BARE + "\n" + row)

    def test_verbs(self):
        self.let_by(BARE + "\nverb rub one -\nverb tie two to")
        for row in ("verb rub some -", "verb rub one to", "verb tie two -", "verb tie two the", "verb take one -",
            "verb rub one - rub",
                    "verb rub one - pat pat", "verb it one -", "verb rub one - undo", "verb abcdefghijkl one -"):
            self.refused(BARE + "\n" + row)

    def test_rules(self):
        self.let_by(BARE + "\nrule wait does " + "x" * 60)
        rule = "rule wait does Hm.\n"
        for rows in (
            "rule wait does " + "x" * 61, "rule jump does Hm.", "rule wait refuses Hm.\nthen move me hall",
            rule + "when has it",
            rule + "when word up", rule + "when has nobody", rule + "when marked tide 1", rule + "when kind me nothing",
            rule + "when at me nobody", rule + "then move hall hall", rule + "then put tide 1",
            rule + "then move me me",
            rule + "when at me other", rule + "then move it hall", rule + "when lit\n" * 5 + "when lit",
            rule + "then move me hall\n" * 4 + "then move me hall", "rule take does Hm.\nwhen marked it 4",
            "rule take does Hm.\nthen put it 999",
        ):
            self.refused(BARE + "\n" + rows)
        self.refused(BARE + "\nrule wait does Hm." * 21)
        self.let_by(BARE + "\nrule wait does Hm." * 20)
        self.let_by(BARE + "\nrule wait does Hm." + "\nwhen lit" * 5 + "\nthen move me hall" * 4)

    def test_forms_ahead_of_worlds(self):
        with self.assertRaises(NoText) as refusal:
            read_world("thing hall room - hall\ndark nobody\nverb take one -\nverb")
        self.assertEqual(refusal.exception.row, 3)


if __name__ == "__main__":
    unittest.main()
