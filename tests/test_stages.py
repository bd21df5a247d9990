import random
import unittest

from deedloom.blocks import blocks_of
from deedloom.desk import Desk
from deedloom.errors import TooLong
from deedloom.ever import ever
from deedloom.floors import floor_of
from deedloom.laying import is_laying, laid
from deedloom.lessgates import fewer_gates
from deedloom.net import net_of, run_net
from deedloom.plain import run
from deedloom.states import fewer_states
from deedloom.table import run_table, table_of
from deedloom.text import read, shown
from deedloom.trim import idle_deeds, trimmed
from tests.made import ALL_UNITS, OPS, judge_pace, lively_programs, traced, words_of


class Stages(unittest.TestCase):
    def judge(self, lines, units, words):
        program = read(lines)
        told = traced(program, words, 60)
        self.assertEqual(run(program, words, 60), told.at(60))
        table = table_of(program, units)
        fewer = fewer_states(table)[0]
        for states in (table, fewer):
            self.agree(told, run_table(program, states, words, 4 * 60 + 4))
            for coded in (False, True):
                net = net_of(program, states, coded)
                for woven in (net, fewer_gates(net)):
                    self.agree(told, run_net(woven, words, 4 * 60 + 4 + 2))

    def judge_all(self, lines, units, words):
        """Through all stages, and once more trimmed, and as a desk is told it."""
        self.judge(lines, units, words)
        program = read(lines)
        less = trimmed(program)
        self.assertEqual(idle_deeds(less), 0)
        self.judge(shown(less), units, words)
        for deeds, ending in blocks_of(program):
            beats = laid(deeds, units)
            self.assertTrue(is_laying(deeds, units, beats))
            self.assertLessEqual(floor_of(deeds, units)[0], len(beats))
        judge_pace(self, program, words, blocks_of(program), 3, False)
        self.judge_ever(program, less, words)
        self.judge_desk(lines, units, words)

    def judge_ever(self, program, less, words):
        plain = traced(program, words, 1000)
        try:
            going = ever(program, words)
        except TooLong:
            self.assertIsNone(plain.over_at)
            return
        if going[0] == "over":
            self.assertEqual(going[1:] + (True,), plain.at(1000))
            self.assertEqual(ever(less, words)[1], going[1])
        else:
            self.assertIsNone(plain.over_at)
            ahead, around, first, many = going[1:]
            self.assertEqual(plain.told_behind(first), ahead)
            self.assertEqual(plain.told_behind(first + many), ahead + around)
            self.assertEqual(plain.at(first), (ahead, plain.at(first + many)[1], False))
            told = plain.told_behind(1000)
            self.assertEqual((ahead + around * 1000)[:len(told)], told)

    def judge_desk(self, lines, units, words):
        desk = Desk()
        plain = traced(read(lines), words, 60)
        told = [str(word) for word in plain.at(60)[0]]
        desk.say("program " + " / ".join(lines))
        desk.say("units " + " ".join(str(unit) for unit in units))
        for name, word in words.items():
            desk.say(f"word {name} {word}")
        for turn in ("as it is", "trimmed"):
            for line in ("steps 60", "beats 300", "gates 300"):
                answer = desk.say(line).split(" ")
                self.assertEqual(answer[1:1 + len(told)], told)
                if plain.over_at is not None:
                    self.assertEqual(answer, ["over"] + told)
            self.assertEqual(desk.say("trim"), "ok")

    def agree(self, plain, woven):
        """What was told in sixty steps was told in four times as many beats, and an end is the same end."""
        told, boxes, over = plain.at(60)
        if over:
            self.assertEqual(woven, (told, boxes, True))
        else:
            self.assertEqual(woven[0][:len(told)], told)

    def test_a_program(self):
        lines = ["width 4", "in n", "box sum", "while n", "sum = sum plus n", "tell sum", "n = n less 1", "end",
                 "if sum", "tell 1", "else", "tell 2", "end"]
        for n in range(16):
            self.judge_all(lines, (1, 1, 1), {"n": n})

    def test_a_product(self):
        lines = ["width 8", "in x", "in y", "box low", "box p", "while y", "low = y and 1", "if low", "p = p plus x",
                 "y = y less 1", "end", "low = y and 2", "if low", "p = p plus x", "p = p plus x", "y = y less 2", "end",
                 "if y", "p = p plus x", "y = y less 1", "end", "end", "tell p"]
        for x, y in ((0, 0), (1, 1), (7, 5), (12, 11), (255, 3), (16, 16)):
            self.judge_all(lines, (2, 1, 1), {"x": x, "y": y})

    def test_a_program_of_all_kinds_of_statements(self):
        lines = ["width 5", "in a", "in b", "box c", "box d", "box e"]
        lines += [f"c = a {op} b" for op in OPS] + [f"d = c {op} a" for op in OPS] + ["tell d", "e = b", "tell 31"]
        lines += ["while e", "e = e less 1", "if c", "tell c", "c = 0", "else", "c = e and 3", "end", "end", "tell e"]
        for units in ALL_UNITS[::5]:
            for a, b in ((0, 0), (31, 1), (5, 3), (3, 5)):
                self.judge_all(lines, units, {"a": a, "b": b})

    def test_many_programs(self):
        chance = random.Random(111)
        for program, words in lively_programs(111, 60):
            self.judge_all(shown(program), chance.choice(ALL_UNITS), words)
            self.judge_all(shown(program), chance.choice(ALL_UNITS), words_of(chance, program))


if __name__ == "__main__":
    unittest.main()
