import random
import unittest

from deedloom.plain import run
from deedloom.program import Program
from tests.made import asked, judge_told, lively_programs, parts, program_of, spoil, traced, words_of


class EachKind(unittest.TestCase):
    def judge(self, rows, words, most, told, boxes, over):
        program = Program(4, ["a", "b"], ["c"], rows)
        self.assertEqual(run(program, words, most), (told, boxes, over))

    def test_copy(self):
        self.judge([("copy", "c", "a")], {"a": 9, "b": 2}, 1, [], {"a": 9, "b": 2, "c": 9}, True)
        self.judge([("copy", "a", 7)], {"a": 9, "b": 2}, 1, [], {"a": 7, "b": 2, "c": 0}, True)

    def test_tell(self):
        self.judge([("tell", "a"), ("tell", 5), ("tell", "c")], {"a": 9, "b": 2}, 3, [9, 5, 0],
                   {"a": 9, "b": 2, "c": 0}, True)

    def test_each_operation(self):
        for op in ("plus", "less", "and", "or", "xor", "below", "same"):
            for x, y in ((9, 3), (3, 9), (12, 10), (15, 1), (0, 1), (7, 7)):
                word = asked(op, x, y, 4)
                boxes = {"a": x, "b": y, "c": word}
                self.judge([(op, "c", "a", "b")], {"a": x, "b": y}, 5, [], boxes, True)
                self.judge([(op, "c", x, "b")], {"a": x, "b": y}, 5, [], boxes, True)
                self.judge([(op, "c", "a", y)], {"a": x, "b": y}, 5, [], boxes, True)
                self.judge([(op, "c", x, y)], {"a": x, "b": y}, 5, [], boxes, True)

    def test_a_deed_that_reads_the_box_it_writes(self):
        self.judge([("plus", "a", "a", "a")], {"a": 9, "b": 0}, 1, [], {"a": 2, "b": 0, "c": 0}, True)

    def test_if_either_way(self):
        rows = [("if", "a", [("tell", 1), ("copy", "c", 3)], [("tell", 2)]), ("tell", "c")]
        self.judge(rows, {"a": 8, "b": 0}, 9, [1, 3], {"a": 8, "b": 0, "c": 3}, True)
        self.judge(rows, {"a": 0, "b": 0}, 9, [2, 0], {"a": 0, "b": 0, "c": 0}, True)

    def test_if_with_an_empty_list(self):
        rows = [("if", "a", [], [("tell", 2)]), ("if", "a", [("tell", 3)], []), ("if", "b", [], [])]
        self.judge(rows, {"a": 1, "b": 0}, 4, [3], {"a": 1, "b": 0, "c": 0}, True)
        self.judge(rows, {"a": 0, "b": 0}, 4, [2], {"a": 0, "b": 0, "c": 0}, True)
        self.judge(rows, {"a": 0, "b": 0}, 3, [2], {"a": 0, "b": 0, "c": 0}, False)

    def test_while_none_one_and_more_times(self):
        rows = [("while", "a", [("tell", "a"), ("less", "a", "a", 1)])]
        self.judge(rows, {"a": 0, "b": 0}, 1, [], {"a": 0, "b": 0, "c": 0}, True)
        self.judge(rows, {"a": 1, "b": 0}, 4, [1], {"a": 0, "b": 0, "c": 0}, True)
        self.judge(rows, {"a": 3, "b": 0}, 10, [3, 2, 1], {"a": 0, "b": 0, "c": 0}, True)
        self.judge(rows, {"a": 3, "b": 0}, 9, [3, 2, 1], {"a": 0, "b": 0, "c": 0}, False)

    def test_the_box_of_a_while_is_looked_at_only_between_its_rows(self):
        rows = [("while", "a", [("copy", "a", 0), ("tell", 1), ("copy", "a", "b"), ("copy", "b", 0)])]
        self.judge(rows, {"a": 2, "b": 5}, 99, [1, 1], {"a": 0, "b": 0, "c": 0}, True)

    def test_ifs_and_whiles_within_one_another(self):
        rows = [("while", "a", [("if", "b", [("while", "b", [("less", "b", "b", 1), ("tell", "b")])],
                                 [("tell", 9)]), ("less", "a", "a", 1)]), ("tell", 8)]
        self.judge(rows, {"a": 2, "b": 2}, 99, [1, 0, 9, 8], {"a": 0, "b": 0, "c": 0}, True)


class Steps(unittest.TestCase):
    ROWS = [("tell", 1), ("if", "a", [("copy", "c", 2)], []), ("while", "a", [("less", "a", "a", 1), ("tell", "a")])]

    def test_behind_each_number_of_steps(self):
        program = Program(2, ["a"], ["c"], self.ROWS)
        asked_for = [
            ([], {"a": 1, "c": 0}, False),
            ([1], {"a": 1, "c": 0}, False),
            ([1], {"a": 1, "c": 0}, False),
            ([1], {"a": 1, "c": 2}, False),
            ([1], {"a": 1, "c": 2}, False),
            ([1], {"a": 0, "c": 2}, False),
            ([1, 0], {"a": 0, "c": 2}, False),
            ([1, 0], {"a": 0, "c": 2}, True),
            ([1, 0], {"a": 0, "c": 2}, True),
        ]
        for most, told in enumerate(asked_for):
            self.assertEqual(run(program, {"a": 1}, most), told)
        self.assertEqual(run(program, {"a": 1}, 2000), asked_for[-1])

    def test_no_statements(self):
        program = Program(3, ["a"], ["b"], [])
        for most in (0, 1, 2, 2000):
            self.assertEqual(run(program, {"a": 6}, most), ([], {"a": 6, "b": 0}, True))
        self.assertEqual(run(Program(1, [], [], []), {}, 0), ([], {}, True))

    def test_a_while_that_never_ends(self):
        program = Program(3, ["a"], ["b"], [("while", "a", [("plus", "b", "b", 1)]), ("tell", 7)])
        for most in (0, 1, 2, 3, 4, 99, 1999, 2000):
            self.assertEqual(run(program, {"a": 1}, most), ([], {"a": 1, "b": most // 2 % 8}, False))
        self.assertEqual(run(program, {"a": 0}, 2), ([7], {"a": 0, "b": 0}, True))

    def test_a_while_with_nothing_in_it(self):
        program = Program(1, ["a"], [], [("while", "a", [])])
        self.assertEqual(run(program, {"a": 1}, 2000), ([], {"a": 1}, False))
        self.assertEqual(run(program, {"a": 0}, 1), ([], {"a": 0}, True))
        self.assertEqual(run(program, {"a": 0}, 0), ([], {"a": 0}, False))

    def test_just_two_thousand_steps(self):
        # Four rounds of a look, two deeds and 2 * 247 + 1 steps within, then the last look: 1,993 steps.
        loop = [("while", "n", [("less", "n", "n", 1), ("copy", "m", 247), ("while", "m", [("less", "m", "m", 1)])])]
        for ahead, over in ((6, True), (7, True), (8, False)):
            program = Program(8, ["n"], ["m"], [("tell", 1)] * ahead + loop)
            self.assertEqual(run(program, {"n": 4}, 2000), ([1] * ahead, {"n": 0, "m": 0}, over))
            self.assertEqual(run(program, {"n": 4}, 1999)[2], ahead == 6)

    def test_just_enough_one_less_and_one_more(self):
        for program, words in lively_programs(21, 150):
            trace = traced(program, words, 400)
            if trace.over_at is None:
                self.assertEqual(run(program, words, 400), trace.at(400))
                continue
            for most in {max(trace.over_at - 1, 0), trace.over_at, trace.over_at + 1, 2000}:
                self.assertEqual(run(program, words, most), trace.at(most))

    def test_many_programs_behind_each_number_of_steps(self):
        ended = 0
        for program, words in lively_programs(22, 150):
            trace = traced(program, words, 60)
            ended += trace.over_at is not None
            for most in range(61):
                self.assertEqual(run(program, words, most), trace.at(most))
        self.assertGreater(ended, 60)

    def test_programs_of_all_names_and_depths(self):
        chance = random.Random(23)
        for turn in range(150):
            program = program_of(chance)
            words = words_of(chance, program)
            trace = traced(program, words, 300)
            for most in (0, 1, 7, 50, 299, 300):
                self.assertEqual(run(program, words, most), trace.at(most))


class TheAskersOwn(unittest.TestCase):
    def setUp(self):
        self.rows = [("while", "a", [("less", "a", "a", 1), ("if", "b", [("tell", "a")], [("tell", 3)])])]
        self.program = Program(2, ["a", "b"], ["c"], self.rows)

    def test_words_and_program_stay(self):
        words = {"a": 3, "b": 1}
        kept = parts(self.program)
        run(self.program, words, 100)
        run(self.program, words, 5)
        self.assertEqual(words, {"a": 3, "b": 1})
        self.assertEqual(parts(self.program), kept)

    def test_changing_what_is_told_changes_no_later_answer(self):
        words = {"a": 3, "b": 1}
        for most in (0, 5, 100):
            first = run(self.program, words, most)
            told = traced(self.program, words, 100).at(most)
            self.assertEqual(first, told)
            spoil(first)
            self.assertEqual(run(self.program, words, most), told)
            self.assertEqual(words, {"a": 3, "b": 1})

    def test_what_is_asked_later_does_not_change_what_was_told(self):
        first = run(self.program, {"a": 3, "b": 1}, 100)
        run(self.program, {"a": 2, "b": 0}, 100)
        self.assertEqual(first, ([2, 1, 0], {"a": 0, "b": 1, "c": 0}, True))

    def test_words_are_not_told_again(self):
        program = Program(2, ["a", "b"], [], [("tell", "a")])
        words = {"a": 3, "b": 1}
        for most in (0, 1):
            spoil(run(program, words, most))
            self.assertEqual(words, {"a": 3, "b": 1})

    def test_changing_words_behind_the_call_changes_nothing(self):
        words = {"a": 3, "b": 1}
        told = run(self.program, words, 2)
        words["a"] = 0
        self.assertEqual(told, ([], {"a": 2, "b": 1, "c": 0}, False))

    def test_kinds(self):
        rows = [("below", "c", "a", "b"), ("tell", "c"), ("same", "c", "a", "a"), ("tell", "c")]
        program = Program(2, ["a", "b"], ["c"], rows)
        for most in range(6):
            judge_told(self, run(program, {"a": 1, "b": 3}, most))
            judge_told(self, run(Program(2, ["a", "b"], ["c"], []), {"a": 1, "b": 3}, most))

    def test_arguments_have_their_names(self):
        self.assertEqual(run(program=self.program, words={"a": 0, "b": 0}, most=1),
                         ([], {"a": 0, "b": 0, "c": 0}, True))


if __name__ == "__main__":
    unittest.main()
