import copy
import random
import unittest

from deedloom.program import Program
from deedloom.table import run_table, table_of
from tests.made import (ALL_UNITS, SORTS, asked, judge_pace, judge_states, judge_told, lively_programs, parts,
                        program_of, spoil, table_for, traced_states, words_of)


class TableOf(unittest.TestCase):
    def judge(self, program, units, *all_words):
        table = table_of(program, units)
        judge_states(self, program, table)
        for deeds, ending in table:
            written = [deed[1] for deed in deeds if deed[0] != "tell"]
            self.assertEqual(len(written), len(set(written)))
            self.assertLessEqual(len(deeds) - len(written), 1)
            for sort, most in zip(SORTS, units):
                self.assertLessEqual(sum(deed[0] in sort for deed in deeds), most)
        for words in all_words:
            judge_pace(self, program, words, table, 4, True)

    def rows(self, rows):
        program = Program(3, ["a", "b"], ["c"], rows)
        for units in ((1, 1, 1), (2, 1, 3), (3, 3, 3)):
            self.judge(program, units, *[{"a": a, "b": b} for a in (0, 1, 3) for b in (0, 1, 2)])

    def test_no_statements(self):
        for program in (Program(1, [], [], []), Program(8, ["a"], ["b"], [])):
            for units in ALL_UNITS:
                self.judge(program, units, {name: 1 for name in program.ins})

    def test_empty_lists(self):
        self.rows([("if", "a", [], [])])
        self.rows([("while", "a", [])])
        self.rows([("tell", 1), ("if", "a", [], []), ("while", "b", []), ("if", "b", [], []), ("tell", 2)])
        self.rows([("if", "a", [("if", "b", [], [])], [("while", "b", [])])])
        self.rows([("while", "a", [("while", "b", []), ("copy", "a", 0)])])
        self.rows([("while", "a", [("if", "b", [], [])])])

    def test_a_box_changed_by_the_last_deed_ahead_of_an_if(self):
        for deed in (("copy", "a", 0), ("copy", "a", "b"), ("less", "a", "a", 1), ("same", "a", "a", "b"),
                     ("xor", "a", "a", 1)):
            self.rows([deed, ("if", "a", [("tell", 1)], [("tell", 2)])])
            self.rows([("tell", "a"), deed, ("if", "a", [("tell", 1)], [("tell", 2)]), ("tell", "a")])
            self.rows([("copy", "c", "a"), deed, ("if", "a", [], [("tell", 2)])])
            self.rows([("if", "b", [deed], []), ("if", "a", [("tell", 1)], [("tell", 2)])])

    def test_a_box_changed_by_the_last_deed_ahead_of_a_while(self):
        for deed in (("copy", "a", 0), ("copy", "a", "b"), ("less", "a", "a", 1), ("below", "a", "b", "a")):
            self.rows([deed, ("while", "a", [("tell", "a"), ("less", "a", "a", 1)]), ("tell", "b")])
            self.rows([("while", "a", [("less", "b", "b", 1), ("tell", "b"), ("copy", "a", "b")])])
            self.rows([("while", "b", [("less", "b", "b", 1), deed, ("while", "a", [("less", "a", "a", 1)])])])

    def test_boxes_that_change_hands_within_one_beat(self):
        self.rows([("copy", "c", "a"), ("copy", "a", "b"), ("copy", "b", "c"), ("tell", "a"), ("tell", "b")])
        self.rows([("tell", "a"), ("copy", "a", 5), ("tell", "a"), ("plus", "a", "a", "b"), ("tell", "a")])

    def test_a_tell_ahead_of_a_long_chain_is_told_soon(self):
        self.rows([("tell", "a")] + [("plus", "c", "c", 1)] * 7 + [("tell", "c")])
        self.rows([("while", "a", [("tell", "a")] + [("plus", "c", "c", 1)] * 7 + [("less", "a", "a", 1)])])
        self.rows([("plus", "c", "c", 1)] * 17 + [("tell", "c")] + [("plus", "c", "c", 1)] * 16)

    def test_whiles(self):
        self.rows([("while", "a", [("tell", "a"), ("less", "a", "a", 1)])])
        self.rows([("while", "a", [("tell", "b"), ("plus", "b", "b", 1)]), ("tell", 7)])
        self.rows([("while", "a", [("if", "b", [("while", "b", [("less", "b", "b", 1), ("tell", "b")])],
                                   [("tell", 6)]), ("less", "a", "a", 1)]), ("tell", 5)])

    def test_units_are_used_up_but_not_passed(self):
        deeds = [(op, name, "a", "b") for op, name in zip(("plus", "less", "plus", "below", "same", "or", "and"),
                                                          "cdefghi")]
        program = Program(3, ["a", "b"], list("cdefghi"), deeds)
        for units in ALL_UNITS:
            self.judge(program, units, {"a": 5, "b": 3})

    def test_many_programs(self):
        chance = random.Random(61)
        for program, words in lively_programs(61, 250):
            self.judge(program, chance.choice(ALL_UNITS), words)

    def test_programs_of_all_names_and_depths(self):
        chance = random.Random(62)
        for turn in range(80):
            program = program_of(chance)
            self.judge(program, chance.choice(ALL_UNITS), words_of(chance, program))

    def test_the_program_stays_and_changing_a_table_changes_no_later_answer(self):
        for program, words in lively_programs(63, 60):
            kept = parts(program)
            first = table_of(program, (1, 2, 3))
            same = table_of(program, (1, 2, 3))
            self.assertEqual(first, same)
            spoil(first)
            self.assertEqual(table_of(program, (1, 2, 3)), same)
            self.assertEqual(parts(program), kept)

    def test_arguments_have_their_names(self):
        self.assertIs(type(table_of(program=Program(1, [], [], []), units=(1, 1, 1))), list)


class RunTable(unittest.TestCase):
    PROGRAM = Program(3, ["a", "b"], ["c"], [])

    def judge(self, table, words, most, told, boxes, over):
        self.assertEqual(run_table(self.PROGRAM, table, words, most), (told, boxes, over))

    def test_all_deeds_read_the_boxes_as_they_are_at_the_begin(self):
        table = [([("copy", "a", "b"), ("copy", "b", "a"), ("tell", "a")], ("go", 1)),
                 ([("tell", "a"), ("plus", "a", "a", "b"), ("copy", "c", "a")], ("stop",))]
        self.judge(table, {"a": 2, "b": 7}, 1, [2], {"a": 7, "b": 2, "c": 0}, False)
        self.judge(table, {"a": 2, "b": 7}, 2, [2, 7], {"a": 1, "b": 2, "c": 7}, True)

    def test_a_tell_behind_the_deed_that_writes_its_box(self):
        self.judge([([("copy", "a", 5), ("tell", "a")], ("stop",))], {"a": 2, "b": 0}, 1, [2],
                   {"a": 5, "b": 0, "c": 0}, True)

    def test_choose_looks_at_the_begin_of_the_beat(self):
        table = [([("copy", "a", 0)], ("choose", "a", 1, 2)), ([("tell", 1)], ("stop",)), ([("tell", 2)], ("stop",))]
        self.judge(table, {"a": 4, "b": 0}, 5, [1], {"a": 0, "b": 0, "c": 0}, True)
        table[0] = ([("copy", "a", 6)], ("choose", "a", 1, 2))
        self.judge(table, {"a": 0, "b": 0}, 5, [2], {"a": 6, "b": 0, "c": 0}, True)

    def test_each_kind_of_deed(self):
        for op in ("plus", "less", "and", "or", "xor", "below", "same"):
            for x, y in ((5, 3), (3, 5), (7, 1), (0, 1), (6, 6)):
                told = asked(op, x, y, 3)
                self.judge([([(op, "c", "a", "b")], ("stop",))], {"a": x, "b": y}, 1, [], {"a": x, "b": y, "c": told},
                           True)
                self.judge([([(op, "c", x, "b")], ("stop",))], {"a": 0, "b": y}, 1, [], {"a": 0, "b": y, "c": told},
                           True)

    def test_numbers_of_beats(self):
        table = [([("tell", "a")], ("choose", "a", 1, 2)), ([("less", "a", "a", 1)], ("go", 0)), ([], ("stop",))]
        for most, told, left, over in ((0, [], 2, False), (1, [2], 2, False), (2, [2], 1, False), (3, [2, 1], 1, False),
                                       (4, [2, 1], 0, False), (5, [2, 1, 0], 0, False), (6, [2, 1, 0], 0, True),
                                       (7, [2, 1, 0], 0, True), (2000, [2, 1, 0], 0, True)):
            self.judge(table, {"a": 2, "b": 5}, most, told, {"a": left, "b": 5, "c": 0}, over)

    def test_no_beats_are_never_over(self):
        self.judge([([], ("stop",))], {"a": 1, "b": 2}, 0, [], {"a": 1, "b": 2, "c": 0}, False)
        self.judge([([], ("stop",))], {"a": 1, "b": 2}, 1, [], {"a": 1, "b": 2, "c": 0}, True)
        empty = Program(1, [], [], [])
        self.assertEqual(run_table(empty, table_of(empty, (1, 1, 1)), {}, 0), ([], {}, False))

    def test_the_deeds_of_the_beat_that_leads_to_stop_are_done(self):
        self.judge([([("copy", "c", 3), ("tell", 4)], ("stop",))], {"a": 1, "b": 2}, 1, [4],
                   {"a": 1, "b": 2, "c": 3}, True)

    def test_a_table_that_never_stops(self):
        table = [([("plus", "c", "c", 1)], ("go", 0))]
        for most in (0, 1, 9, 1999, 2000):
            self.judge(table, {"a": 1, "b": 2}, most, [], {"a": 1, "b": 2, "c": most % 8}, False)
        self.judge([([("tell", 3)], ("choose", "a", 0, 0))], {"a": 1, "b": 2}, 2000, [3] * 2000,
                   {"a": 1, "b": 2, "c": 0}, False)

    def test_tables_that_were_not_told(self):
        chance = random.Random(64)
        for turn in range(300):
            program = program_of(chance, 0, 4)
            table = table_for(chance, program, chance.randint(1, 6))
            words = words_of(chance, program)
            kept = (copy.deepcopy(table), dict(words), parts(program))
            trace = traced_states(program, table, words, 40, True)
            for most in range(41):
                self.assertEqual(run_table(program, table, words, most), trace.at(most))
            self.assertEqual((table, words, parts(program)), kept)

    def test_tables_of_programs(self):
        chance = random.Random(65)
        for program, words in lively_programs(65, 80):
            table = table_of(program, chance.choice(ALL_UNITS))
            trace = traced_states(program, table, words, 200, True)
            last = trace.over_at or 200
            for most in (0, 1, last - 1, last, last + 1, 200):
                self.assertEqual(run_table(program, table, words, min(most, 200)), trace.at(min(most, 200)))

    def test_changing_what_is_told_changes_no_later_answer(self):
        table = [([("tell", "a"), ("copy", "c", "a")], ("go", 1)), ([("tell", 1)], ("stop",))]
        words = {"a": 3, "b": 1}
        for most in (0, 1, 2):
            first = run_table(self.PROGRAM, table, words, most)
            again = run_table(self.PROGRAM, table, words, most)
            spoil(first)
            self.assertEqual(run_table(self.PROGRAM, table, words, most), again)
        self.assertEqual(words, {"a": 3, "b": 1})

    def test_words_are_not_told_again(self):
        program = Program(2, ["a", "b"], [], [])
        words = {"a": 3, "b": 1}
        for most in (0, 1, 2):
            spoil(run_table(program, [([("tell", "a")], ("stop",))], words, most))
            self.assertEqual(words, {"a": 3, "b": 1})

    def test_kinds_and_names_of_arguments(self):
        table = [([("below", "c", "a", "b"), ("tell", "c")], ("go", 1)), ([("same", "c", "a", "a")], ("go", 2)),
                 ([("tell", "c")], ("stop",))]
        for most in range(5):
            judge_told(self, run_table(program=self.PROGRAM, table=table, words={"a": 3, "b": 5}, most=most))


if __name__ == "__main__":
    unittest.main()
