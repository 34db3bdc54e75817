"""The verbs and rules that stand in every world behind its own (point 20)."""

from tellworld.asks import At, Has, Kind, Marked, Not, Word
from tellworld.deeds import Move, Put
from tellworld.rules import Rule
from tellworld.things import Verb


def common_verbs():
    return [Verb(name) for name in ("take", "drop", "open", "shut", "light", "douse")] + [
        Verb("put", (), "two", "in"),
        Verb("go", (), "way"),
        Verb("wait", (), "alone"),
    ]


def common_rules(you, ways):
    return hand_rules(you) + put_rules() + lid_rules() + flame_rules() + go_rules(you, ways) + wait_rules()


def does(verb, tests, deeds, text):
    return Rule(verb, tests, deeds, text, False)


def refuses(verb, tests, text):
    return Rule(verb, tests, [], text, True)


def hand_rules(you):
    return [
        refuses("take", [Kind("it", "fixed")], "That stays."),
        refuses("take", [At("it", you)], "You have that."),
        does("take", [], [Move("it", you)], "Taken."),
        does("drop", [Has("it")], [Move("it", "here")], "Dropped."),
        refuses("drop", [], "You lack that."),
    ]


def put_rules():
    return [
        refuses("put", [Not(Has("it"))], "You lack that."),
        refuses("put", [Not(Kind("other", "box"))], "It holds nothing."),
        refuses("put", [Marked("other", 0)], "It is shut."),
        does("put", [], [Move("it", "other")], "Done."),
    ]


def lid_rules():
    return [
        refuses("open", [Not(Kind("it", "box"))], "It has no lid."),
        refuses("open", [Marked("it", 1)], "It is open."),
        does("open", [], [Put("it", 1)], "Opened."),
        refuses("shut", [Not(Kind("it", "box"))], "It has no lid."),
        refuses("shut", [Marked("it", 0)], "It is shut."),
        does("shut", [], [Put("it", 0)], "Shut."),
    ]


def flame_rules():
    return [
        refuses("light", [Not(Kind("it", "lamp"))], "It burns not."),
        refuses("light", [Marked("it", 1)], "It is lit."),
        does("light", [], [Put("it", 1)], "Lit."),
        refuses("douse", [Not(Kind("it", "lamp"))], "It burns not."),
        refuses("douse", [Marked("it", 0)], "It is out."),
        does("douse", [], [Put("it", 0)], "Doused."),
    ]


def go_rules(you, ways):
    rules = [does("go", way_tests(you, way), [Move(you, way[2])], "You go.") for way in ways]
    return rules + [refuses("go", [], "No way there.")]


def way_tests(you, way):
    tests = [At(you, way[0]), Word(way[1])]
    if way[3] is not None:
        tests.append(Not(Marked(way[3], 0)))
    return tests


def wait_rules():
    return [does("wait", [], [], "Time goes by.")]
