import random
import unittest

from deedloom.blocks import blocks_of
from deedloom.program import Program
from tests.made import judge_pace, judge_states, lively_programs, parts, program_of, reached, spoil, words_of


def statements(rows):
    many = 0
    for row in rows:
        many += 1
        if row[0] in ("if", "while"):
            many += sum(statements(within) for within in row[2:])
    return many


class Judged(unittest.TestCase):
    def judge(self, program, *all_words):
        blocks = blocks_of(program)
        judge_states(self, program, blocks)
        for deeds, ending in blocks:
            self.assertLessEqual(len(deeds), 8)
        self.assertLessEqual(len(blocks), 3 * statements(program.rows) + 2)
        self.assertEqual(reached(blocks), set(range(len(blocks))))
        for words in all_words:
            judge_pace(self, program, words, blocks, 3, False)

    def rows(self, rows):
        program = Program(3, ["a", "b"], ["c"], rows)
        self.judge(program, *[{"a": a, "b": b} for a in (0, 1, 3) for b in (0, 1, 2)])


class Blocks(Judged):
    def test_no_statements(self):
        for program in (Program(1, [], [], []), Program(8, ["a"], ["b"], [])):
            self.judge(program, {name: 1 for name in program.ins})

    def test_deeds_in_a_row(self):
        for many in list(range(1, 20)) + [24, 25, 39, 40]:
            self.rows([("tell", "a"), ("plus", "a", "a", 1), ("copy", "c", "a"), ("tell", "c")] * (many // 4)
                      + [("less", "b", "b", 1)] * (many % 4))

    def test_empty_lists(self):
        self.rows([("if", "a", [], [])])
        self.rows([("while", "a", [])])
        self.rows([("if", "a", [], []), ("tell", 1)])
        self.rows([("while", "a", []), ("tell", 1)])
        self.rows([("tell", 1), ("if", "a", [], []), ("while", "b", []), ("if", "b", [], []), ("tell", 2)])
        self.rows([("if", "a", [("if", "b", [], [])], [("while", "b", [])])])
        self.rows([("while", "a", [("while", "b", []), ("copy", "a", 0)])])
        self.rows([("while", "a", [("if", "b", [], [])])])

    def test_if(self):
        self.rows([("if", "a", [("tell", 1)], [("tell", 2)])])
        self.rows([("if", "a", [("tell", 1)], [])])
        self.rows([("if", "a", [], [("tell", 2)])])
        self.rows([("tell", 3), ("if", "a", [("copy", "b", 5)], [("tell", 2)]), ("tell", "b")])

    def test_while(self):
        self.rows([("while", "a", [("tell", "a"), ("less", "a", "a", 1)])])
        self.rows([("tell", 5), ("while", "a", [("tell", "a"), ("less", "a", "a", 1)]), ("tell", "b")])
        self.rows([("while", "a", [("less", "a", "a", 1)]), ("while", "b", [("less", "b", "b", 1), ("tell", "b")])])

    def test_a_while_that_never_ends(self):
        self.rows([("while", "a", [("tell", "b"), ("plus", "b", "b", 1)]), ("tell", 7)])
        self.rows([("copy", "c", 1), ("while", "c", [])])

    def test_ifs_and_whiles_within_one_another(self):
        self.rows([("while", "a", [("if", "b", [("while", "b", [("less", "b", "b", 1), ("tell", "b")])],
                                   [("tell", 6)]), ("less", "a", "a", 1)]), ("tell", 5)])
        self.rows([("if", "a", [("if", "b", [("tell", 1)], [("tell", 2)]), ("tell", 3)],
                    [("while", "b", [("if", "b", [("less", "b", "b", 1)], []), ("tell", "b")])])])
        rows = [("tell", "a"), ("less", "a", "a", 1)]
        for depth in range(8):
            rows = [("while", "a", rows), ("tell", depth % 8)] if depth % 2 else [("if", "a", rows, [("tell", 7)])]
        self.rows(rows)

    def test_long_rows_within_ifs_and_whiles(self):
        many = [("plus", "c", "c", "b"), ("tell", "c")] * 6
        self.rows([("while", "a", many + [("less", "a", "a", 1)])] + many)
        self.rows([("if", "a", many, many[:9])] + many)

    def test_forty_ifs_and_forty_whiles(self):
        self.rows([("if", "a", [], [])] * 40)
        self.rows([("while", "a", [])] * 40)
        self.rows([("if", "a", [("tell", 1)], [])] * 20)
        self.rows([("while", "a", [("copy", "a", 0)])] * 20)

    def test_many_programs(self):
        for program, words in lively_programs(31, 250):
            self.judge(program, words)

    def test_programs_of_all_names_and_depths(self):
        chance = random.Random(32)
        for turn in range(100):
            program = program_of(chance)
            self.judge(program, words_of(chance, program))


class TheAskersOwn(unittest.TestCase):
    def test_the_program_stays_and_changing_blocks_changes_no_later_answer(self):
        for program, words in lively_programs(33, 60):
            kept = parts(program)
            first = blocks_of(program)
            same = blocks_of(program)
            self.assertEqual(first, same)
            spoil(first)
            self.assertEqual(blocks_of(program), same)
            self.assertEqual(parts(program), kept)

    def test_an_argument_has_its_name(self):
        self.assertEqual(type(blocks_of(program=Program(1, [], [], []))), list)


if __name__ == "__main__":
    unittest.main()
