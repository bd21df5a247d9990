import random
import unittest

from deedloom.lessgates import fewer_gates
from deedloom.net import Net, net_of, run_net
from deedloom.program import Program
from deedloom.states import fewer_states
from deedloom.table import table_of
from tests.made import (ALL_UNITS, asked_wires, judge_beats, judge_net, lively_programs, net_parts, net_with,
                        program_of, some_rows, spoil, words_of)

GATES = ("not", "and", "or", "xor")


def own_wires(net):
    return sum(net.boxes.values(), [net.tell, net.stop] + net.said)


def bits_told(net, words, beats):
    """What the net's own wires tell, beat by beat."""
    told = asked_wires(net.rows, words, beats)
    return [({name: [bits[wire] for wire in wires] for name, wires in net.boxes.items()}, bits[net.tell],
             [bits[wire] for wire in net.said], bits[net.stop]) for bits in told]


class Judged(unittest.TestCase):
    def judge(self, net, words_lists, beats=25):
        kept = net_parts(net)
        fewer = fewer_gates(net)
        self.assertEqual(net_parts(net), kept)
        self.assertIs(type(fewer), Net)
        self.assertLessEqual(len(fewer.rows), len(net.rows))
        self.judge_rows(net, fewer)
        for words in words_lists:
            self.assertEqual(bits_told(fewer, words, beats), bits_told(net, words, beats))
        return fewer

    def judge_rows(self, net, fewer):
        rows = fewer.rows
        alike = set()
        for place, row in enumerate(rows):
            wires = [rows[wire] for wire in row[1:]] if row[0] in GATES + ("latch",) else []
            if row[0] in GATES:
                self.assertTrue(all(0 <= wire < place for wire in row[1:]))
                self.assertTrue(all(wire[0] != "fix" for wire in wires))
            if row[0] == "not":
                self.assertNotEqual(wires[0][0], "not")
            if row[0] in ("and", "or", "xor"):
                self.assertNotEqual(row[1], row[2])
                row = (row[0],) + tuple(sorted(row[1:]))
            if row[0] == "latch":
                self.assertNotEqual(wires[0], ("fix", 0))
            if row[0] == "in":
                self.assertIn(row, net.rows)
            self.assertNotIn(row, alike)
            alike.add(row)
        found = list(dict.fromkeys(own_wires(fewer)))
        for wire in found:
            if rows[wire][0] in GATES + ("latch",):
                found.extend(part for part in dict.fromkeys(rows[wire][1:]) if part not in found)
        self.assertEqual(sorted(found), list(range(len(rows))))


class RowsByHand(Judged):
    """Rows that no program made, with wires that the net is to tell."""

    def rows(self, rows, tell, stop=0, box=(), said=()):
        net = net_with(rows, {"b": list(box)}, tell, list(said), stop)
        words = [{"x": x, "y": y} for x in (0, 1) for y in (0, 1)]
        return self.judge(net, words, 9)

    def test_gates_by_fixed_wires(self):
        for kind in ("and", "or", "xor"):
            for bit in (0, 1):
                for order in ((0, 1), (1, 0)):
                    self.rows([("fix", bit), ("in", "x", 0), (kind,) + order], 2, 1)
            for bits in ((0, 0), (0, 1), (1, 0), (1, 1)):
                self.rows([("fix", bits[0]), ("fix", bits[1]), (kind, 0, 1)], 2, 0)
        for bit in (0, 1):
            self.rows([("fix", bit), ("not", 0), ("in", "x", 0)], 1, 2)

    def test_gates_by_the_same_wire_twice(self):
        for kind in ("and", "or", "xor"):
            self.rows([("in", "x", 0), (kind, 0, 0)], 1)
            self.rows([("in", "x", 0), ("in", "x", 0), (kind, 0, 1)], 2)
            self.rows([("in", "x", 0), ("not", 0), ("not", 1), (kind, 0, 2)], 3)

    def test_not_of_not(self):
        self.rows([("in", "x", 0), ("not", 0), ("not", 1)], 2)
        self.rows([("in", "x", 0), ("not", 0), ("not", 1), ("not", 2), ("not", 3)], 4, 3)
        self.rows([("in", "x", 0), ("fix", 1), ("xor", 0, 1), ("not", 2)], 3)
        self.rows([("in", "x", 0), ("not", 0), ("fix", 1), ("xor", 1, 2)], 3)

    def test_latches_by_nought(self):
        self.rows([("fix", 0), ("latch", 0)], 1)
        self.rows([("latch", 1), ("latch", 2), ("latch", 3), ("fix", 0), ("in", "x", 0), ("or", 0, 4)], 5, 1)
        self.rows([("latch", 2), ("in", "x", 0), ("and", 1, 0)], 2)
        self.rows([("in", "x", 0), ("xor", 0, 0), ("latch", 1), ("or", 2, 0)], 3)
        self.rows([("fix", 1), ("not", 0), ("latch", 1), ("not", 2)], 3)

    def test_latches_by_one_stay(self):
        fewer = self.rows([("fix", 1), ("latch", 0)], 1)
        self.assertIn("latch", [row[0] for row in fewer.rows])

    def test_alike_rows(self):
        self.rows([("in", "x", 0), ("in", "y", 0), ("and", 0, 1), ("and", 0, 1), ("xor", 2, 3)], 4)
        for kind in ("and", "or", "xor"):
            self.rows([("in", "x", 0), ("in", "y", 0), (kind, 0, 1), (kind, 1, 0)], 2, 3)
        self.rows([("in", "x", 0), ("not", 0), ("not", 0)], 1, 2)
        self.rows([("fix", 1), ("fix", 1), ("fix", 0)], 0, 1, [2, 1])
        self.rows([("in", "x", 0), ("in", "x", 0)], 0, 1)

    def test_alike_latches(self):
        self.rows([("in", "x", 0), ("latch", 0), ("latch", 0)], 1, 2)
        self.rows([("latch", 4), ("latch", 4), ("latch", 0), ("latch", 1), ("in", "x", 0), ("xor", 2, 3)], 2, 3, [5])
        self.rows([("latch", 2), ("latch", 3), ("not", 0), ("not", 0)], 0, 1)
        self.rows([("latch", 1), ("latch", 0), ("not", 0), ("latch", 2), ("latch", 2)], 3, 4, [0, 1])

    def test_a_latch_by_its_own_wire(self):
        self.rows([("latch", 0), ("in", "x", 0), ("or", 0, 1)], 2, 0)
        self.rows([("latch", 0), ("latch", 1), ("or", 0, 1)], 2, 0)

    def test_rows_that_lead_nowhere(self):
        fewer = self.rows([("in", "x", 0), ("in", "y", 0), ("and", 0, 1), ("latch", 3), ("latch", 2)], 0)
        self.assertEqual(fewer.rows, [("in", "x", 0)])

    def test_all_wires_are_kept(self):
        rows = [("in", "x", 0), ("in", "y", 0), ("not", 0), ("not", 1), ("latch", 0), ("latch", 1), ("fix", 0)]
        self.rows(rows, 2, 3, [4, 6], [5, 1])

    def test_many_rows(self):
        chance = random.Random(101)
        for turn in range(600):
            many = chance.randint(1, 30)
            rows = some_rows(chance, many)
            wires = [chance.randrange(many) for turn in range(8)]
            net = net_with(rows, {"p": wires[:2], "q": wires[2:4]}, wires[4], wires[5:7], wires[7])
            words = [{"a": chance.randint(0, 15), "b": chance.randint(0, 15)} for turn in range(3)]
            fewer = self.judge(net, words)
            self.judge(fewer, words)


class NetsOfPrograms(Judged):
    def nets(self, seed, many):
        chance = random.Random(seed)
        for program, words in lively_programs(seed, many):
            table = table_of(program, chance.choice(ALL_UNITS))
            if chance.random() < 0.5:
                table = fewer_states(table)[0]
            for coded in (False, True):
                yield program, table, net_of(program, table, coded), [words, words_of(chance, program)]

    def test_nets_plain_and_coded(self):
        for program, table, net, words_lists in self.nets(102, 50):
            fewer = self.judge(net, words_lists)
            judge_net(self, program, fewer)
            for words in words_lists:
                judge_beats(self, program, table, fewer, words, 25)
                self.assertEqual(run_net(fewer, words, 30), run_net(net, words, 30))

    def test_made_fewer_once_more(self):
        for program, table, net, words_lists in self.nets(103, 20):
            once = fewer_gates(net)
            twice = self.judge(once, words_lists)
            judge_net(self, program, twice)

    def test_a_net_with_rows_spoiled(self):
        # Rows that only say again what others say are put behind a net's own, and its wires are led there.
        chance = random.Random(104)
        for program, table, net, words_lists in self.nets(104, 20):
            rows = list(net.rows)
            for turn in range(40):
                wire = chance.randrange(len(rows))
                first = len(rows)
                rows.extend(chance.choice(([("not", wire), ("not", first)], [("and", wire, wire)],
                                           [("fix", 0), ("or", wire, first)], [("fix", 1), ("and", first, wire)],
                                           [("fix", 0), ("latch", first), ("xor", first + 1, wire)])))
            net = net_with(rows, net.boxes, net.tell, net.said, net.stop)
            fewer = self.judge(net, words_lists)
            self.assertLess(len(fewer.rows), len(net.rows))

    def test_large_programs(self):
        chance = random.Random(105)
        for turn in range(6):
            program = program_of(chance)
            net = net_of(program, table_of(program, (1, 1, 1)), turn % 2 == 1)
            self.judge(net, [words_of(chance, program)], 12)

    def test_nothing_but_a_width(self):
        program = Program(1, [], [], [])
        for coded in (False, True):
            net = net_of(program, table_of(program, (1, 1, 1)), coded)
            judge_net(self, program, self.judge(net, [{}]))

    def test_changing_what_is_told_changes_no_later_answer(self):
        program = Program(2, ["a"], ["b"], [("plus", "b", "a", 1), ("tell", "b")])
        net = net_of(program, table_of(program, (1, 1, 1)))
        kept = net_parts(net)
        first = fewer_gates(net=net)
        again = net_parts(fewer_gates(net))
        for field in (first.rows, first.boxes, first.said):
            spoil(field)
        self.assertEqual(net_parts(fewer_gates(net)), again)
        self.assertEqual(net_parts(net), kept)
        once = fewer_gates(net)
        twice = fewer_gates(once)
        for field in (once.rows, once.boxes, once.said):
            spoil(field)
        self.assertEqual(run_net(twice, {"a": 2}, 9), ([3], {"a": 2, "b": 3}, True))


if __name__ == "__main__":
    unittest.main()
