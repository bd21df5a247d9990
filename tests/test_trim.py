import random
import unittest

from deedloom.program import Program
from deedloom.trim import idle_deeds, trimmed
from tests.made import lively_programs, parts, program_of, read_by, traced, words_of, written_by


class Ways:
    """The ways through statements: for each place what it reads and writes, and the places behind it."""

    def __init__(self, rows):
        self.reads = {}
        self.writes = {}
        self.behind = {}
        self.first = self.lay(rows, (), "end")

    def lay(self, rows, path, behind):
        for place in reversed(range(len(rows))):
            behind = self.lay_row(rows[place], path + (place,), behind)
        return behind

    def lay_row(self, row, path, behind):
        if row[0] == "if":
            ways = [self.lay(row[2], path + ("ones",), behind), self.lay(row[3], path + ("others",), behind)]
            self.note(path, {row[1]}, set(), ways)
        elif row[0] == "while":
            self.note(path, {row[1]}, set(), [behind])
            self.behind[path].append(self.lay(row[2], path + ("rows",), path))
        else:
            self.note(path, read_by(row), written_by(row), [behind])
        return path

    def note(self, path, reads, writes, behind):
        self.reads[path], self.writes[path], self.behind[path] = reads, writes, behind

    def is_idle(self, path):
        """Whether no way from behind the deed on comes to a place that reads its box ahead of one that writes it."""
        if not self.writes[path]:
            return False
        found = list(self.behind[path])
        for place in found:
            if place == "end":
                continue
            if self.writes[path] & self.reads[place]:
                return False
            if not self.writes[path] & self.writes[place]:
                found.extend(other for other in self.behind[place] if other not in found)
        return True

    def idle(self):
        return {path for path in self.writes if self.is_idle(path)}


def without(rows, paths, path=()):
    left = []
    for place, row in enumerate(rows):
        own = path + (place,)
        if row[0] == "if":
            left.append((row[0], row[1], without(row[2], paths, own + ("ones",)),
                         without(row[3], paths, own + ("others",))))
        elif row[0] == "while":
            left.append((row[0], row[1], without(row[2], paths, own + ("rows",))))
        elif own not in paths:
            left.append(row)
    return left


def without_one_empty_if(rows):
    """The rows without the first if, at any depth, both lists of which are empty; None where there is none."""
    for place, row in enumerate(rows):
        if row[0] == "if" and row[2] == row[3] == []:
            return rows[:place] + rows[place + 1:]
        for part in range(2, len(row)) if row[0] in ("if", "while") else ():
            fewer = without_one_empty_if(row[part])
            if fewer is not None:
                return rows[:place] + [row[:part] + (fewer,) + row[part + 1:]] + rows[place + 1:]
    return None


def asked_rows(rows):
    """Point 20, round by round."""
    while True:
        left = without(rows, Ways(rows).idle())
        fewer = without_one_empty_if(left)
        while fewer is not None:
            left, fewer = fewer, without_one_empty_if(fewer)
        if left == rows:
            return rows
        rows = left


class Judged(unittest.TestCase):
    def judge(self, program):
        kept = parts(program)
        many = idle_deeds(program)
        self.assertIs(type(many), int)
        self.assertEqual(many, len(Ways(program.rows).idle()))
        told = trimmed(program)
        self.assertEqual(parts(program), kept)
        self.assertIs(type(told), Program)
        self.assertEqual((told.width, told.ins, told.boxes), (program.width, program.ins, program.boxes))
        self.assertEqual(told.rows, asked_rows(program.rows))
        self.assertEqual(idle_deeds(told), 0)
        return told

    def rows(self, rows, idle, left):
        program = Program(3, ["a", "b"], ["c", "d"], rows)
        self.assertEqual(idle_deeds(program), idle)
        self.assertEqual(self.judge(program).rows, left)

    def stays(self, rows):
        self.rows(rows, 0, rows)


class Idle(Judged):
    def test_not_read_at_all(self):
        self.rows([], 0, [])
        self.rows([("copy", "c", 1)], 1, [])
        self.rows([("plus", "c", "a", "b"), ("tell", "a")], 1, [("tell", "a")])
        self.rows([("tell", "c"), ("copy", "c", 1)], 1, [("tell", "c")])
        self.rows([("copy", "a", "a"), ("tell", 1)], 1, [("tell", 1)])

    def test_each_operation_is_idle_or_not(self):
        for op in ("plus", "less", "and", "or", "xor", "below", "same"):
            self.rows([(op, "c", "a", "b")], 1, [])
            self.stays([(op, "c", "a", "b"), ("tell", "c")])

    def test_tells_are_never_idle(self):
        self.stays([("tell", 1), ("tell", "a"), ("tell", "c")])

    def test_read_by_each_kind_of_statement(self):
        for reader in (("tell", "c"), ("if", "c", [("tell", 1)], []), ("if", "c", [], [("tell", 1)]),
                       ("while", "c", []), ("while", "c", [("tell", 1)])):
            self.stays([("copy", "c", 1), reader])
            self.stays([("copy", "c", 1), ("tell", 2), ("if", "a", [reader], [])])
        for reader in (("copy", "d", "c"), ("plus", "d", "c", 1), ("less", "d", 1, "c"), ("xor", "d", "c", "c")):
            self.stays([("copy", "c", 1), reader, ("tell", "d")])

    def test_written_ahead_of_being_read(self):
        for writer in (("copy", "c", 2), ("plus", "c", "a", 1), ("same", "c", "a", "b")):
            self.rows([("copy", "c", 1), writer, ("tell", "c")], 1, [writer, ("tell", "c")])
        for writer in (("copy", "c", "c"), ("plus", "c", "c", 1), ("less", "c", 1, "c")):
            self.stays([("copy", "c", 1), writer, ("tell", "c")])

    def test_behind_ifs(self):
        write = ("copy", "c", 2)
        self.rows([("copy", "c", 1), ("if", "a", [write], [write]), ("tell", "c")], 1,
                  [("if", "a", [write], [write]), ("tell", "c")])
        self.stays([("copy", "c", 1), ("if", "a", [write], []), ("tell", "c")])
        self.stays([("copy", "c", 1), ("if", "a", [], [write]), ("tell", "c")])
        self.stays([("copy", "c", 1), ("if", "a", [("tell", "c")], [])])
        self.stays([("copy", "c", 1), ("if", "a", [], [("tell", "c")])])
        self.stays([("copy", "c", 1), ("if", "a", [write, ("tell", "c")], [("tell", "c")])])
        self.rows([("copy", "c", 1), ("if", "a", [write, ("tell", "c")], [("tell", 1)])], 1,
                  [("if", "a", [write, ("tell", "c")], [("tell", 1)])])
        self.stays([("copy", "c", 1), ("if", "c", [write], [write]), ("tell", "c")])

    def test_within_ifs(self):
        self.rows([("if", "a", [("copy", "c", 1), ("tell", 1)], []), ("copy", "c", 2), ("tell", "c")], 1,
                  [("if", "a", [("tell", 1)], []), ("copy", "c", 2), ("tell", "c")])
        self.stays([("if", "a", [("copy", "c", 1)], [("copy", "c", 3)]), ("tell", "c")])
        # What the other list reads is on no way from here on.
        self.rows([("if", "a", [("copy", "c", 1), ("tell", 1)], [("tell", "c")])], 1,
                  [("if", "a", [("tell", 1)], [("tell", "c")])])

    def test_behind_whiles(self):
        write = ("copy", "c", 2)
        self.stays([("copy", "c", 1), ("while", "a", [write, ("tell", "c")]), ("tell", "c")])
        self.stays([("copy", "c", 1), ("while", "a", [("tell", "c")])])
        self.rows([("copy", "c", 1), ("while", "a", [write, ("tell", "c")])], 1,
                  [("while", "a", [write, ("tell", "c")])])
        self.rows([("copy", "c", 1), ("while", "a", []), write, ("tell", "c")], 1,
                  [("while", "a", []), write, ("tell", "c")])

    def test_within_whiles_read_the_next_time_round(self):
        self.stays([("while", "a", [("tell", "c"), ("copy", "c", 1)])])
        self.stays([("while", "a", [("plus", "c", "c", 1), ("tell", "c")])])
        self.stays([("while", "c", [("less", "c", "c", 1)])])
        self.stays([("while", "a", [("if", "c", [("tell", 1)], []), ("xor", "c", "c", 1)])])
        self.stays([("while", "a", [("while", "b", [("tell", "c")]), ("copy", "c", 1)])])
        self.stays([("while", "a", [("tell", "c"), ("while", "b", [("copy", "c", 1)])])])
        self.rows([("while", "a", [("copy", "c", 1), ("tell", "c"), ("copy", "c", 2)])], 1,
                  [("while", "a", [("copy", "c", 1), ("tell", "c")])])
        self.rows([("while", "a", [("copy", "c", 1), ("tell", 1)])], 1, [("while", "a", [("tell", 1)])])

    def test_a_count_that_only_counts_itself_stays(self):
        # It reads itself in the next time round, so it is read, whatever comes of it.
        self.stays([("while", "a", [("plus", "c", "c", 1)])])

    def test_a_while_looks_again_behind_its_rows(self):
        self.stays([("while", "a", [("copy", "a", "b"), ("tell", 1)])])
        self.rows([("while", "a", [("copy", "a", 1), ("tell", 1), ("copy", "a", "b")])], 1,
                  [("while", "a", [("tell", 1), ("copy", "a", "b")])])

    def test_at_the_end_of_all(self):
        self.rows([("tell", "c"), ("if", "a", [("copy", "c", 1), ("tell", 1)], [])], 1,
                  [("tell", "c"), ("if", "a", [("tell", 1)], [])])
        self.rows([("while", "b", [("less", "b", "b", 1)]), ("copy", "b", 1)], 1,
                  [("while", "b", [("less", "b", "b", 1)])])

    def test_a_box_called_by_a_kind_of_statement(self):
        program = Program(1, ["tell", "if"], ["copy", "while"],
                          [("copy", "copy", 1), ("copy", "while", "copy"), ("tell", "tell"), ("copy", "tell", 0)])
        self.assertEqual(idle_deeds(program), 2)
        self.assertEqual(self.judge(program).rows, [("tell", "tell")])


class Rounds(Judged):
    def test_rounds_make_further_deeds_idle(self):
        self.rows([("copy", "c", 1), ("copy", "d", "c"), ("copy", "c", "d"), ("plus", "d", "c", "c")], 1, [])
        self.rows([("copy", "c", 1), ("plus", "c", "c", 1), ("plus", "c", "c", 1), ("tell", "a")], 1, [("tell", "a")])

    def test_all_idle_deeds_of_a_round_are_taken_out_at_once(self):
        rows = [("copy", "c", 1), ("copy", "c", 2), ("copy", "d", 3), ("copy", "d", 4)]
        self.rows(rows, 4, [])

    def test_empty_ifs_are_taken_out(self):
        self.rows([("if", "a", [], [])], 0, [])
        self.rows([("if", "a", [], []), ("tell", 1), ("if", "b", [], [])], 0, [("tell", 1)])
        self.rows([("if", "a", [("if", "b", [], [])], [])], 0, [])
        self.rows([("if", "a", [("if", "b", [], [])], [("if", "c", [], [("if", "d", [], [])])])], 0, [])
        self.rows([("if", "a", [("if", "b", [], [("tell", 1)])], [("if", "c", [], [])])], 0,
                  [("if", "a", [("if", "b", [], [("tell", 1)])], [])])

    def test_ifs_that_become_empty(self):
        self.rows([("if", "a", [("copy", "c", 1)], [("copy", "d", 1)])], 2, [])
        self.rows([("if", "a", [("if", "b", [("copy", "c", 1)], [])], [("copy", "d", 1)]), ("tell", 1)], 2,
                  [("tell", 1)])

    def test_an_if_taken_out_reads_no_more(self):
        self.rows([("copy", "c", 1), ("if", "c", [("copy", "d", 1)], []), ("tell", 1)], 1, [("tell", 1)])
        self.rows([("copy", "c", 1), ("if", "c", [], []), ("tell", 1)], 0, [("tell", 1)])
        self.rows([("copy", "d", "a"), ("copy", "c", "d"), ("if", "c", [("if", "d", [], [])], [])], 0, [])

    def test_whiles_stay(self):
        self.stays([("while", "a", [])])
        self.rows([("while", "a", [("copy", "c", 1)])], 1, [("while", "a", [])])
        self.rows([("while", "a", [("if", "b", [], [])])], 0, [("while", "a", [])])
        self.rows([("if", "a", [("while", "b", [("copy", "c", 1)])], [])], 1, [("if", "a", [("while", "b", [])], [])])
        self.stays([("copy", "c", 0), ("while", "c", [])])


class Programs(Judged):
    def tell_the_same(self, program, words):
        first = traced(program, words, 120)
        less = traced(trimmed(program), words, 120)
        for steps in range(121):
            told = first.told_behind(steps)
            self.assertEqual(less.told_behind(steps)[:len(told)], told)
        if first.over_at is not None:
            self.assertIsNotNone(less.over_at)
            self.assertLessEqual(less.over_at, first.over_at)
            self.assertEqual(less.all_told, first.all_told)
        elif less.over_at is not None:
            self.assertIsNotNone(traced(program, words, 20000).over_at)

    def test_many_programs(self):
        shorter = 0
        for program, words in lively_programs(131, 400):
            shorter += self.judge(program).rows != program.rows
            self.tell_the_same(program, words)
        self.assertGreater(shorter, 100)

    def test_programs_of_all_names_and_depths(self):
        chance = random.Random(132)
        for turn in range(200):
            program = program_of(chance)
            self.judge(program)
            self.tell_the_same(program, words_of(chance, program))

    def test_deep_programs(self):
        for kinds in ("while", "if"), ("if", "while"), ("while", "while"):
            rows = [("copy", "c", "d"), ("tell", "c")]
            for depth in range(8):
                rows = rows + [("copy", "d", "c"), ("copy", "c", "b")]
                rows = [("while", "a", rows)] if kinds[depth % 2] == "while" else [("if", "a", rows, [])]
            self.judge(Program(2, ["a", "b"], ["c", "d"], rows))

    def test_the_trimmed_program_has_lists_of_its_own(self):
        rows = [("copy", "c", 1), ("while", "a", [("tell", 1), ("if", "b", [("tell", 2)], [])])]
        program = Program(2, ["a", "b"], ["c"], rows)
        kept = parts(program)
        told = trimmed(program=program)
        told.rows[0][2][1][2].append(("tell", 3))
        told.rows[0][2].append(("tell", 3))
        told.rows.append(("tell", 3))
        told.ins.append("z")
        told.boxes.append("z")
        self.assertEqual(parts(program), kept)
        self.assertEqual(trimmed(program).rows, [rows[1]])
        whole = Program(2, ["a", "b"], ["c"], rows[1:])
        trimmed(whole).rows[0][2].clear()
        self.assertEqual(whole.rows, rows[1:])

    def test_an_argument_has_its_name(self):
        self.assertEqual(idle_deeds(program=Program(2, [], ["c"], [("copy", "c", 1)])), 1)


if __name__ == "__main__":
    unittest.main()
