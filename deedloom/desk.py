"""A desk that is told lines and answers them."""

from deedloom.errors import NoName, TooGreat
from deedloom.ever import ever
from deedloom.lines import asked_by
from deedloom.net import net_of, run_net
from deedloom.plain import run
from deedloom.program import Program, word_count
from deedloom.table import run_table, table_of
from deedloom.text import read
from deedloom.trim import trimmed


class Desk:
    """A program, units, and a word for each input."""

    def __init__(self):
        self.program = Program(1, [], [], [])
        self.units = (1, 1, 1)
        self.words = {}

    def say(self, line):
        """The answer to the line, or a refusal, which changes nothing."""
        asked = asked_by(line)
        if asked[0] == "program":
            return self.take_program(asked[1])
        if asked[0] == "units":
            return self.take_units(asked[1])
        if asked[0] == "word":
            return self.take_word(asked[1], asked[2])
        if asked[0] == "trim":
            return self.trim_program()
        if asked[0] == "ever":
            return self.answer_ever()
        if asked[0] == "boxes":
            return self.answer_boxes(asked[1])
        return self.answer_told(asked[0], asked[1])

    def take_program(self, lines):
        self.program = read(lines)
        self.words = {}
        for name in self.program.ins:
            self.words[name] = 0
        return "ok"

    def take_units(self, units):
        self.units = units
        return "ok"

    def take_word(self, name, word):
        if name not in self.program.ins:
            raise NoName(f"no input: {name!r}")
        if word >= word_count(self.program.width):
            raise TooGreat(f"no word: {word}")
        self.words[name] = word
        return "ok"

    def trim_program(self):
        self.program = trimmed(self.program)
        return "ok"

    def answer_ever(self):
        going = ever(self.program, self.words)
        if going[0] == "over":
            return in_line(["over"] + going[1])
        return in_line(["round"] + going[1] + ["/"] + going[2])

    def answer_boxes(self, most):
        told = run(self.program, self.words, most)
        return in_line([over_or_going(told)] + [told[1][name] for name in self.program.boxes])

    def answer_told(self, kind, most):
        told = self.run_by(kind, most)
        return in_line([over_or_going(told)] + told[0])

    def run_by(self, kind, most):
        if kind == "steps":
            return run(self.program, self.words, most)
        table = table_of(self.program, self.units)
        if kind == "beats":
            return run_table(self.program, table, self.words, most)
        return run_net(net_of(self.program, table), self.words, most)


def over_or_going(told):
    return "over" if told[2] else "going"


def in_line(parts):
    return " ".join([str(part) for part in parts])
