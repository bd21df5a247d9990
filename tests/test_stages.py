import random
import unittest

from deedloom.lessgates import fewer_gates
from deedloom.net import net_of, run_net
from deedloom.plain import run
from deedloom.states import fewer_states
from deedloom.table import run_table, table_of
from deedloom.text import read, shown
from tests.made import ALL_UNITS, lively_programs, traced, words_of


class Stages(unittest.TestCase):
    def judge(self, lines, units, words):
        program = read(lines)
        told = traced(program, words, 60)
        self.assertEqual(run(program, words, 60), told.at(60))
        table = table_of(program, units)
        fewer = fewer_states(table)[0]
        for states in (table, fewer):
            self.agree(told, run_table(program, states, words, 4 * 60 + 4))
            for coded in (False, True):
                net = net_of(program, states, coded)
                for woven in (net, fewer_gates(net)):
                    self.agree(told, run_net(woven, words, 4 * 60 + 4 + 2))

    def agree(self, plain, woven):
        """What was told in sixty steps was told in four times as many beats, and an end is the same end."""
        told, boxes, over = plain.at(60)
        if over:
            self.assertEqual(woven, (told, boxes, True))
        else:
            self.assertEqual(woven[0][:len(told)], told)

    def test_a_program(self):
        lines = ["width 4", "in n", "box sum", "while n", "sum = sum plus n", "tell sum", "n = n less 1", "end",
                 "if sum", "tell 1", "else", "tell 2", "end"]
        for n in range(16):
            self.judge(lines, (1, 1, 1), {"n": n})

    def test_a_product(self):
        lines = ["width 8", "in x", "in y", "box low", "box p", "while y", "low = y and 1", "if low", "p = p plus x",
                 "y = y less 1", "end", "low = y and 2", "if low", "p = p plus x", "p = p plus x", "y = y less 2", "end",
                 "if y", "p = p plus x", "y = y less 1", "end", "end", "tell p"]
        for x, y in ((0, 0), (1, 1), (7, 5), (12, 11), (255, 3), (16, 16)):
            self.judge(lines, (2, 1, 1), {"x": x, "y": y})

    def test_many_programs(self):
        chance = random.Random(111)
        for program, words in lively_programs(111, 60):
            self.judge(shown(program), chance.choice(ALL_UNITS), words)
            self.judge(shown(program), chance.choice(ALL_UNITS), words_of(chance, program))


if __name__ == "__main__":
    unittest.main()
