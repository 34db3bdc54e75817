"""The player: rows said one after the other, what they answer and where they lead (points 26 to 28)."""

from tellworld.reading import longer_row, read
from tellworld.stands import first_stand
from tellworld.steps import step
from tellworld.words import words_of


class Player:
    def __init__(self, world):
        self.world = world
        self.begin()

    def begin(self):
        self.now = first_stand(self.world)
        # Of each told row that isn't undone: the stand ahead of it, and its command.
        self.trail = []
        # The row that a question was asked of, and its phrase; None where nothing is asked.
        self.question = None

    def stand(self):
        return self.now

    def walk(self):
        return [command for ahead, command in self.trail]

    def say(self, row):
        words = words_of(row)
        question = self.question
        self.question = None
        if words == ("undo",):
            return self.undo()
        if words == ("restart",):
            self.begin()
            return ("begun",)
        if question is not None and is_answer(self.world, words):
            return self.hear(longer_row(self.world, question[0], question[1], words))
        return self.hear(row)

    def undo(self):
        if len(self.trail) == 0:
            return ("nothing",)
        self.now = self.trail.pop()[0]
        return ("undone",)

    def hear(self, row):
        answer = read(self.world, self.now, row)
        if answer[0] == "which":
            self.question = (row, answer[1])
        if answer[0] != "command":
            return answer
        return self.carry_out(answer[1])

    def carry_out(self, command):
        result = step(self.world, self.now, command)
        if result[0][0] == "told":
            self.trail.append((self.now, command))
            self.now = result[1]
        return result[0]


def is_answer(world, words):
    return len(words) > 0 and world.verb_of(words[0]) is None
