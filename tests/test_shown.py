import random
import unittest

from deedloom.program import Program
from deedloom.text import read, shown
from tests.made import program_of


def parts(program):
    return (program.width, program.ins, program.boxes, program.rows)


class Shown(unittest.TestCase):
    def judge(self, program, lines):
        self.assertEqual(shown(program), lines)
        again = read(lines)
        self.assertEqual(parts(again), parts(program))
        self.assertEqual(shown(again), lines)

    def rows(self, rows, lines):
        self.judge(Program(4, ["a", "b"], ["c", "d"], rows),
                   ["width 4", "in a", "in b", "box c", "box d"] + lines)

    def test_nothing_but_a_width(self):
        for width in range(1, 9):
            self.judge(Program(width, [], [], []), [f"width {width}"])

    def test_inputs_and_boxes_in_order(self):
        self.judge(Program(1, ["y", "x"], ["b", "a"], []), ["width 1", "in y", "in x", "box b", "box a"])
        self.judge(Program(1, ["y"], [], []), ["width 1", "in y"])
        self.judge(Program(1, [], ["y"], []), ["width 1", "box y"])

    def test_copy(self):
        self.rows([("copy", "c", "a"), ("copy", "a", 0), ("copy", "d", 15), ("copy", "c", 10)],
                  ["c = a", "a = 0", "d = 15", "c = 10"])

    def test_each_operation(self):
        for op in ("plus", "less", "and", "or", "xor", "below", "same"):
            self.rows([(op, "c", "a", "b"), (op, "c", 3, "b"), (op, "c", "a", 0), (op, "c", 15, 7)],
                      [f"c = a {op} b", f"c = 3 {op} b", f"c = a {op} 0", f"c = 15 {op} 7"])

    def test_tell(self):
        self.rows([("tell", "a"), ("tell", 0), ("tell", 12)], ["tell a", "tell 0", "tell 12"])

    def test_if_without_others(self):
        self.rows([("if", "a", [("tell", 1), ("tell", 2)], []), ("tell", 3)],
                  ["if a", "tell 1", "tell 2", "end", "tell 3"])

    def test_if_with_others(self):
        self.rows([("if", "a", [("tell", 1)], [("tell", 2), ("tell", 3)])],
                  ["if a", "tell 1", "else", "tell 2", "tell 3", "end"])

    def test_if_with_others_alone(self):
        self.rows([("if", "a", [], [("tell", 2)])], ["if a", "else", "tell 2", "end"])

    def test_if_and_while_with_nothing(self):
        self.rows([("if", "a", [], []), ("while", "b", [])], ["if a", "end", "while b", "end"])

    def test_while(self):
        self.rows([("while", "a", [("less", "a", "a", 1), ("tell", "a")])],
                  ["while a", "a = a less 1", "tell a", "end"])

    def test_ifs_and_whiles_within_one_another(self):
        self.rows(
            [("while", "a", [("if", "b", [("while", "c", []), ("tell", 1)], [("if", "d", [], [("tell", 2)])])]),
             ("if", "a", [("if", "b", [("tell", 3)], [("tell", 4)])], [("while", "d", [("tell", 5)])])],
            ["while a", "if b", "while c", "end", "tell 1", "else", "if d", "else", "tell 2", "end", "end", "end",
             "if a", "if b", "tell 3", "else", "tell 4", "end", "else", "while d", "tell 5", "end", "end"])

    def test_boxes_called_by_words_of_the_lines(self):
        self.judge(
            Program(2, ["in", "width", "tell", "if"], ["box", "end", "else", "plus"], [
                ("copy", "width", 2), ("copy", "in", "box"), ("copy", "box", "in"), ("tell", "tell"),
                ("copy", "tell", "tell"), ("plus", "tell", "plus", "plus"), ("plus", "plus", "plus", "plus"),
                ("copy", "if", 1), ("copy", "else", "end"), ("copy", "end", "else"),
                ("if", "if", [("copy", "else", 1)], [("copy", "end", 1), ("if", "else", [], [])]),
                ("while", "end", [("copy", "end", "plus")])]),
            ["width 2", "in in", "in width", "in tell", "in if", "box box", "box end", "box else", "box plus",
             "width = 2", "in = box", "box = in", "tell tell", "tell = tell", "tell = plus plus plus",
             "plus = plus plus plus", "if = 1", "else = end", "end = else",
             "if if", "else = 1", "else", "end = 1", "if else", "end", "end", "while end", "end = plus", "end"])

    def test_each_word_of_the_lines_as_a_name(self):
        for name in ("width", "in", "box", "tell", "if", "else", "while", "end", "plus", "less", "and", "or",
                     "xor", "below", "same", "copy"):
            rows = [("copy", name, name), ("tell", name), ("if", name, [("copy", name, 0)], [("tell", name)]),
                    ("while", name, [("xor", name, name, name)])]
            lines = [f"{name} = {name}", f"tell {name}", f"if {name}", f"{name} = 0", "else", f"tell {name}", "end",
                     f"while {name}", f"{name} = {name} xor {name}", "end"]
            with self.subTest(name=name):
                self.judge(Program(1, [name], [], rows), ["width 1", f"in {name}"] + lines)
                self.judge(Program(1, [], [name], rows), ["width 1", f"box {name}"] + lines)

    def test_a_box_called_while(self):
        self.judge(Program(1, [], ["while"], [("copy", "while", 1), ("while", "while", [("copy", "while", 0)])]),
                   ["width 1", "box while", "while = 1", "while while", "while = 0", "end"])

    def test_many_programs(self):
        chance = random.Random(5)
        for turn in range(400):
            program = program_of(chance)
            self.judge(program, shown(program))


class TheAskersOwn(unittest.TestCase):
    def test_changing_shown_lines_changes_no_later_answer(self):
        program = Program(2, ["a"], ["b"], [("if", "a", [("tell", "b")], [("tell", 1)])])
        lines = ["width 2", "in a", "box b", "if a", "tell b", "else", "tell 1", "end"]
        told = shown(program)
        self.assertEqual(told, lines)
        told.clear()
        self.assertEqual(shown(program), lines)
        shown(program).append("tell a")
        self.assertEqual(shown(program), lines)
        self.assertEqual(parts(program), (2, ["a"], ["a", "b"], [("if", "a", [("tell", "b")], [("tell", 1)])]))

    def test_shown_does_not_change_the_program(self):
        program = Program(2, ["a"], ["b"], [("if", "a", [("tell", "b")], []), ("while", "b", [])])
        shown(program)
        self.assertEqual(parts(program),
                         (2, ["a"], ["a", "b"], [("if", "a", [("tell", "b")], []), ("while", "b", [])]))

    def test_shown_tells_a_list_of_texts(self):
        told = shown(Program(2, [], ["b"], [("tell", 1)]))
        self.assertIs(type(told), list)
        self.assertEqual([type(line) for line in told], [str] * 3)

    def test_changing_the_lines_behind_read_changes_nothing(self):
        lines = ["width 2", "in a", "box b", "while a", "tell b", "end"]
        program = read(lines)
        lines[4] = "tell a"
        lines.append("tell 1")
        self.assertEqual(parts(program), (2, ["a"], ["a", "b"], [("while", "a", [("tell", "b")])]))


if __name__ == "__main__":
    unittest.main()
