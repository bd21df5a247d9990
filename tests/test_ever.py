import random
import unittest

from deedloom.errors import LoomError, TooLong
from deedloom.ever import ever
from deedloom.program import Program
from tests.made import Trace, judge_told, lively_programs, parts, program_of, spoil, words_of


def asked_ever(program, words, most=1000):
    """Points 18 and 19, word by word; None where it is TooLong."""
    trace = Trace(program, words)
    left = list(program.rows)
    seen = []
    for steps in range(most + 1):
        if not left:
            return ("over", trace.all_told, trace.now)
        for first, standing in enumerate(seen):
            if standing[:2] == (left, trace.now):
                return ("round", trace.all_told[:standing[2]], trace.all_told[standing[2]:], first, steps - first)
        seen.append((left, dict(trace.now), len(trace.all_told)))
        row, left = left[0], left[1:]
        if row[0] == "if":
            left = (row[2] if trace.now[row[1]] else row[3]) + left
        elif row[0] == "while":
            left = row[2] + [row] + left if trace.now[row[1]] else left
        else:
            trace.do([row])
    return None


# Two words that count down, then one that goes round: 2 * n + 1 steps, and 2 ** width rounds of two.
COUNT = ("while", "n", [("less", "n", "n", 1)])
COUNT_TOO = ("while", "m", [("less", "m", "m", 1)])
AROUND = ("while", "a", [("plus", "x", "x", 1)])


class Ever(unittest.TestCase):
    def judge(self, width, rows, words, told):
        program = Program(width, sorted(words), [name for name in ("c", "x", "t") if name not in words], rows)
        if told is None:
            self.assertIsNone(asked_ever(program, words))
            with self.assertRaises(TooLong) as taken:
                ever(program, words)
            self.assertIs(type(taken.exception), TooLong)
            self.assertIsInstance(taken.exception, LoomError)
        else:
            self.assertEqual(asked_ever(program, words), told)
            self.assertEqual(ever(program, words), told)

    def test_over(self):
        self.judge(2, [], {"a": 1}, ("over", [], {"a": 1, "c": 0, "x": 0, "t": 0}))
        self.judge(2, [("tell", "a"), ("copy", "c", 3), ("tell", "c")], {"a": 1},
                   ("over", [1, 3], {"a": 1, "c": 3, "x": 0, "t": 0}))
        self.judge(2, [("while", "a", [("tell", "a"), ("less", "a", "a", 1)])], {"a": 3},
                   ("over", [3, 2, 1], {"a": 0, "c": 0, "x": 0, "t": 0}))

    def test_a_round_of_one_step(self):
        self.judge(2, [("while", "a", [])], {"a": 1}, ("round", [], [], 0, 1))
        self.judge(2, [("tell", 2), ("while", "a", []), ("tell", 1)], {"a": 1}, ("round", [2], [], 1, 1))
        self.judge(2, [("while", "a", [])], {"a": 0}, ("over", [], {"a": 0, "c": 0, "x": 0, "t": 0}))

    def test_rounds_with_and_without_words_in_either_part(self):
        self.judge(2, [("while", "a", [("tell", 1)])], {"a": 1}, ("round", [], [1], 0, 2))
        self.judge(2, [("tell", 3), ("while", "a", [("tell", 1), ("tell", 2)])], {"a": 1},
                   ("round", [3], [1, 2], 1, 3))
        self.judge(2, [("tell", 3), ("tell", 2), ("while", "a", [("copy", "c", 1)])], {"a": 1},
                   ("round", [3, 2], [], 4, 2))
        self.judge(2, [("copy", "c", 1), ("while", "c", [("copy", "x", "a")])], {"a": 0}, ("round", [], [], 1, 2))

    def test_a_round_by_boxes_that_go_round(self):
        self.judge(2, [("while", "a", [("tell", "x"), ("plus", "x", "x", 1)])], {"a": 1},
                   ("round", [], [0, 1, 2, 3], 0, 12))
        self.judge(3, [("while", "a", [("tell", "x"), ("plus", "x", "x", 1), ("or", "x", "x", 4)])], {"a": 1},
                   ("round", [0], [5, 6, 7, 4], 4, 16))

    def test_a_round_that_begins_within_a_while(self):
        # Behind the first look t is written as it will be from then on, so the standing behind the copy comes again.
        self.judge(2, [("while", "a", [("copy", "t", 1), ("tell", "t")])], {"a": 1}, ("round", [], [1], 2, 3))
        self.judge(2, [("while", "a", [("copy", "t", 1), ("tell", "t"), ("tell", 0)])], {"a": 1},
                   ("round", [], [1, 0], 2, 4))
        self.judge(2, [("while", "a", [("tell", 0), ("copy", "t", 1), ("tell", 2)])], {"a": 1},
                   ("round", [0], [2, 0], 3, 4))

    def test_the_same_boxes_but_unlike_statements_left(self):
        self.judge(2, [("tell", 1)] * 5, {"a": 1}, ("over", [1] * 5, {"a": 1, "c": 0, "x": 0, "t": 0}))
        self.judge(2, [("copy", "a", "a")] * 9 + [("tell", "a")], {"a": 1},
                   ("over", [1], {"a": 1, "c": 0, "x": 0, "t": 0}))
        self.judge(2, [("while", "a", [("tell", 1), ("tell", 1), ("if", "c", [], [("tell", 2)])])], {"a": 1},
                   ("round", [], [1, 1, 2], 0, 5))
        self.judge(2, [("if", "a", [("tell", 1)], []), ("if", "a", [("tell", 1)], [])], {"a": 1},
                   ("over", [1, 1], {"a": 1, "c": 0, "x": 0, "t": 0}))

    def test_alike_statements_at_unlike_places(self):
        # First through ONES, then through OTHERS: behind the copy the lists left are alike, and the boxes.
        rows = [("while", "a", [("if", "t", [("copy", "t", 0), ("tell", 1)], [("copy", "t", 0), ("tell", 1)])])]
        self.judge(2, rows, {"a": 1, "t": 1}, ("round", [], [1], 3, 4))
        within = [("if", "c", [("tell", 1)], [("while", "x", [])]), ("tell", 2)]
        rows = [("while", "a", [("if", "t", [("copy", "t", 0)] + within, [("copy", "t", 0)] + list(within)),
                                ("tell", 3)])]
        self.judge(2, rows, {"a": 1, "t": 1}, ("round", [], [2, 3], 3, 7))

    def test_statements_that_differ_in_one_thing_alone(self):
        for one, other in ((("tell", 1), ("tell", 2)), (("tell", 0), ("tell", "c")),
                           (("copy", "x", "c"), ("copy", "c", "x")), (("copy", "x", 0), ("copy", "x", "c")),
                           (("plus", "x", "c", "x"), ("plus", "x", "x", "c")),
                           (("if", "x", [], []), ("while", "x", [])), (("if", "x", [], []), ("if", "c", [], [])),
                           (("if", "x", [("tell", 1)], []), ("if", "x", [("tell", 2)], [])),
                           (("if", "x", [("tell", 1)], []), ("if", "x", [], [("tell", 1)])),
                           (("while", "x", []), ("while", "x", [("tell", 1)]))):
            rows = [("while", "a", [("if", "t", [("copy", "t", 0), one], [("copy", "t", 0), other])])]
            program = Program(2, ["a", "t"], ["c", "x"], rows)
            self.assertEqual(ever(program, {"a": 1, "t": 1}), asked_ever(program, {"a": 1, "t": 1}))
            self.assertNotEqual(ever(program, {"a": 1, "t": 1})[3], 3)

    def test_over_behind_just_a_thousand_steps_and_one_more(self):
        boxes = {"m": 0, "n": 0, "c": 0, "x": 0, "t": 0}
        self.judge(8, [COUNT, COUNT_TOO], {"n": 255, "m": 243}, ("over", [], boxes))
        self.judge(8, [COUNT, COUNT_TOO], {"n": 255, "m": 244}, ("over", [], boxes))
        self.judge(8, [("tell", 1), COUNT, COUNT_TOO], {"n": 255, "m": 244}, None)
        self.judge(8, [COUNT, COUNT_TOO, ("tell", 1)], {"n": 255, "m": 243}, ("over", [1], boxes))
        self.judge(8, [COUNT, COUNT_TOO, ("tell", 1)], {"n": 255, "m": 244}, None)

    def test_a_standing_again_behind_just_a_thousand_steps_and_one_more(self):
        words = {"n": 243, "a": 1}
        self.judge(8, [COUNT, AROUND], words, ("round", [], [], 487, 512))
        self.judge(8, [("tell", 7), COUNT, AROUND], words, ("round", [7], [], 488, 512))
        self.judge(8, [("tell", 7), ("tell", 8), COUNT, AROUND], words, None)

    def test_a_run_that_is_far_longer(self):
        self.judge(8, [("while", "n", [("less", "n", "n", 1), ("copy", "x", 200),
                                       ("while", "x", [("less", "x", "x", 1)])])], {"n": 200}, None)

    def test_many_programs(self):
        kinds = {"over": 0, "round": 0, None: 0}
        for program, words in lively_programs(121, 400):
            told = asked_ever(program, words)
            kinds[told and told[0]] += 1
            if told is None:
                self.assertRaises(TooLong, ever, program, words)
            else:
                self.assertEqual(ever(program, words), told)
        self.assertGreater(min(kinds["over"], kinds["round"]), 30)

    def test_programs_of_all_names_and_depths(self):
        chance = random.Random(122)
        for turn in range(60):
            program = program_of(chance, width=chance.randint(1, 2))
            words = words_of(chance, program)
            told = asked_ever(program, words)
            if told is None:
                self.assertRaises(TooLong, ever, program, words)
            else:
                self.assertEqual(ever(program, words), told)

    def test_what_is_handed_in_stays_and_what_is_told_is_the_askers_own(self):
        for rows in ([("tell", "a"), ("copy", "c", 1)], [("tell", 1), ("while", "a", [("tell", "a")])]):
            program = Program(2, ["a"], ["c"], rows)
            words = {"a": 2}
            kept = parts(program)
            first = ever(program, words)
            again = ever(program=program, words=words)
            spoil(first)
            self.assertEqual(ever(program, words), again)
            self.assertEqual((words, parts(program)), ({"a": 2}, kept))

    def test_words_are_not_told_again(self):
        words = {"a": 3, "b": 1}
        spoil(ever(Program(2, ["a", "b"], [], []), words))
        self.assertEqual(words, {"a": 3, "b": 1})

    def test_kinds(self):
        told = ever(Program(2, ["a"], ["c"], [("same", "c", "a", 2), ("tell", "c"), ("below", "c", "c", 3)]), {"a": 2})
        judge_told(self, told[1:] + (True,))
        told = ever(Program(2, ["a"], [], [("tell", "a")]), {"a": 2})
        self.assertEqual([type(told)] + [type(part) for part in told], [tuple, str, list, dict])
        told = ever(Program(2, ["a"], [], [("while", "a", [("tell", 1)])]), {"a": 2})
        self.assertEqual([type(told)] + [type(part) for part in told], [tuple, str, list, list, int, int])


if __name__ == "__main__":
    unittest.main()
