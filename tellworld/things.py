"""Things, marks and verbs, of which a world is made (points 8, 9, 11).

Nothing is refused here: whether the fields are right is asked when a world is made of them, so
each field is kept just as it was handed in.
"""

KINDS = ("room", "plain", "fixed", "box", "lamp", "you")
FORMS = ("alone", "one", "two", "way")
KINDS_THAT_HOLD = ("room", "box", "you")
KINDS_WITH_MARK = ("box", "lamp")
KINDS_APART = ("room", "you")


class Thing:
    def __init__(self, name, words, kind, start=None):
        self.name = name
        self.words = words
        self.kind = kind
        self.start = start

    def can_hold(self):
        return self.kind in KINDS_THAT_HOLD

    def has_mark(self):
        return self.kind in KINDS_WITH_MARK

    def is_plainly(self):
        return self.kind not in KINDS_APART


class Mark:
    def __init__(self, name, start, most):
        self.name = name
        self.start = start
        self.most = most


class Verb:
    def __init__(self, name, others=None, form="one", joining=None):
        self.name = name
        self.others = () if others is None else others
        self.form = form
        self.joining = joining
