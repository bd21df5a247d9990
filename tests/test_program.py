import unittest

from deedloom.program import Program, reckoned
from deedloom.text import shown
from tests.made import asked

WIDTHS = range(1, 9)


class Reckoned(unittest.TestCase):
    OPS = ("plus", "less", "and", "or", "xor", "below", "same")

    def judge(self, op, x, y, width):
        got = reckoned(op, x, y, width)
        if got != asked(op, x, y, width) or type(got) is not int:
            self.fail(f"{op} of {x} and {y} by width {width}: {got!r}")

    def test_all_words_of_the_small_widths(self):
        for width in range(1, 6):
            for x in range(2 ** width):
                for y in range(2 ** width):
                    for op in self.OPS:
                        self.judge(op, x, y, width)

    def test_many_words_of_each_width(self):
        for width in WIDTHS:
            greatest = 2 ** width - 1
            words = sorted({0, 1, greatest // 2, greatest // 2 + 1, greatest - 1, greatest}
                           | set(range(0, greatest + 1, 7)))
            for x in words:
                for y in words:
                    for op in self.OPS:
                        self.judge(op, x, y, width)

    def test_nought_and_the_greatest_word(self):
        for width in WIDTHS:
            top = 2 ** width - 1
            with self.subTest(width=width):
                told = {op: [reckoned(op, x, y, width) for x, y in ((0, 0), (0, top), (top, 0), (top, top))]
                        for op in self.OPS}
                self.assertEqual(told, {
                    "plus": [0, top, top, top - 1],
                    "less": [0, 1, top, 0],
                    "and": [0, 0, 0, top],
                    "or": [0, top, top, top],
                    "xor": [0, top, top, 0],
                    "below": [0, 1, 0, 0],
                    "same": [1, 0, 0, 1],
                })

    def test_words_written_out(self):
        self.assertEqual(reckoned("plus", 200, 100, 8), 44)
        self.assertEqual(reckoned("less", 3, 5, 4), 14)
        self.assertEqual(reckoned("and", 12, 10, 4), 8)
        self.assertEqual(reckoned("or", 12, 10, 4), 14)
        self.assertEqual(reckoned("xor", 12, 10, 4), 6)
        self.assertEqual(reckoned("below", 5, 6, 3), 1)
        self.assertEqual(reckoned("below", 6, 6, 3), 0)
        self.assertEqual(reckoned("same", 6, 6, 3), 1)
        self.assertEqual(reckoned("same", 6, 5, 3), 0)

    def test_arguments_have_their_names(self):
        self.assertEqual(reckoned(op="less", x=1, y=2, width=2), 3)


class Fields(unittest.TestCase):
    def test_fields(self):
        rows = [("copy", "c", "a"), ("if", "a", [("tell", 1)], []), ("while", "b", [("less", "b", "b", 1)])]
        program = Program(3, ["a", "b"], ["c", "d"], rows)
        self.assertEqual(program.width, 3)
        self.assertEqual(program.ins, ["a", "b"])
        self.assertEqual(program.boxes, ["a", "b", "c", "d"])
        self.assertEqual(program.rows, rows)

    def test_arguments_have_their_names(self):
        program = Program(width=2, ins=["z"], boxes=["a"], rows=[("tell", "a")])
        self.assertEqual((program.width, program.ins, program.boxes, program.rows),
                         (2, ["z"], ["z", "a"], [("tell", "a")]))

    def test_kinds_of_fields(self):
        program = Program(1, ["a"], ["b"], [("if", "a", [("tell", 0)], [("while", "b", [])])])
        self.assertIs(type(program.width), int)
        for field in (program.ins, program.boxes, program.rows):
            self.assertIs(type(field), list)
        kind, name, ones, others = program.rows[0]
        self.assertIs(type(program.rows[0]), tuple)
        self.assertIs(type(ones), list)
        self.assertIs(type(others), list)
        self.assertIs(type(others[0]), tuple)
        self.assertIs(type(others[0][2]), list)

    def test_nothing_but_a_width(self):
        program = Program(1, [], [], [])
        self.assertEqual((program.width, program.ins, program.boxes, program.rows), (1, [], [], []))

    def test_inputs_stand_ahead_of_other_boxes_in_their_own_order(self):
        program = Program(1, ["y", "x"], ["b", "a"], [])
        self.assertEqual(program.boxes, ["y", "x", "b", "a"])


class Copies(unittest.TestCase):
    def setUp(self):
        self.deepest = [("tell", "b")]
        self.ones = [("while", "a", self.deepest)]
        self.others = [("tell", 1)]
        self.loop = [("if", "a", [], [("tell", 0)])]
        self.rows = [("if", "a", self.ones, self.others), ("while", "b", self.loop)]
        self.ins = ["a"]
        self.boxes = ["b"]
        self.program = Program(2, self.ins, self.boxes, self.rows)
        self.lines = shown(self.program)

    def change_all(self):
        for kept in (self.deepest, self.loop[0][2], self.loop[0][3], self.ones, self.others, self.loop, self.rows):
            kept.append(("tell", 3))
        self.ins.append("c")
        self.boxes.append("d")

    def test_changing_what_was_handed_in_changes_nothing(self):
        self.change_all()
        self.assertEqual(self.program.ins, ["a"])
        self.assertEqual(self.program.boxes, ["a", "b"])
        self.assertEqual(self.program.rows, [
            ("if", "a", [("while", "a", [("tell", "b")])], [("tell", 1)]),
            ("while", "b", [("if", "a", [], [("tell", 0)])]),
        ])
        self.assertEqual(shown(self.program), self.lines)

    def test_what_is_handed_in_is_not_changed(self):
        self.assertEqual(self.ins, ["a"])
        self.assertEqual(self.boxes, ["b"])
        self.assertEqual(self.rows, [
            ("if", "a", [("while", "a", [("tell", "b")])], [("tell", 1)]),
            ("while", "b", [("if", "a", [], [("tell", 0)])]),
        ])

    def test_each_list_at_each_depth_is_its_own(self):
        for kept in (self.deepest, self.loop[0][2], self.loop[0][3], self.ones, self.others, self.loop, self.rows):
            kept.clear()
            self.assertEqual(shown(self.program), self.lines)

    def test_two_programs_of_the_same_rows_share_no_list(self):
        other = Program(2, self.ins, self.boxes, self.program.rows)
        self.assertIsNot(other.rows, self.program.rows)
        self.assertIsNot(other.rows[0][2], self.program.rows[0][2])
        self.assertIsNot(other.rows[0][3], self.program.rows[0][3])
        self.assertIsNot(other.rows[0][2][0][2], self.program.rows[0][2][0][2])
        self.assertIsNot(other.rows[1][2], self.program.rows[1][2])
        self.assertIsNot(other.rows[1][2][0][3], self.program.rows[1][2][0][3])


if __name__ == "__main__":
    unittest.main()
