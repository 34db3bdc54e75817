"""Rules: of which verb, what is asked, what is done and what is said (point 19).

Nothing is refused here: whether a rule is right is asked when a world is made of it.
"""


class Rule:
    def __init__(self, verb, tests, deeds, text, refuses=False):
        self.verb = verb
        self.tests = own_list(tests)
        self.deeds = own_list(deeds)
        self.text = text
        self.refuses = refuses


def own_list(thing):
    # A copy, so that what is done later to the list that was handed in doesn't change the rule;
    # what is no list stays as it is, for the world to refuse.
    return list(thing) if isinstance(thing, list) else thing
