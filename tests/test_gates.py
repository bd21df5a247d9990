import copy
import random
import unittest

from deedloom.gates import wires_told
from tests.made import asked_wires, some_rows, spoil


class Wires(unittest.TestCase):
    def judge(self, rows, words, columns):
        """Columns: for each wire its bits, beat by beat."""
        beats = len(columns[0])
        self.assertEqual(wires_told(rows, words, beats), [[column[beat] for column in columns] for beat in range(beats)])

    def test_fix(self):
        self.judge([("fix", 0), ("fix", 1)], {}, [[0, 0, 0], [1, 1, 1]])

    def test_in(self):
        rows = [("in", "a", 0), ("in", "a", 1), ("in", "a", 2), ("in", "b", 0), ("in", "a", 7)]
        self.judge(rows, {"a": 134, "b": 1}, [[0] * 3, [1] * 3, [1] * 3, [1] * 3, [1] * 3])
        self.judge(rows, {"a": 1, "b": 2}, [[1] * 3, [0] * 3, [0] * 3, [0] * 3, [0] * 3])

    def test_gates(self):
        for x in (0, 1):
            for y in (0, 1):
                rows = [("in", "x", 0), ("in", "y", 0), ("and", 0, 1), ("or", 0, 1), ("xor", 0, 1), ("not", 0),
                        ("and", 1, 0), ("or", 1, 0), ("xor", 1, 0), ("and", 0, 0), ("or", 1, 1), ("xor", 1, 1)]
                bits = [x, y, min(x, y), max(x, y), int(x != y), 1 - x, min(x, y), max(x, y), int(x != y), x, y, 0]
                self.judge(rows, {"x": x, "y": y}, [[bit] * 2 for bit in bits])

    def test_a_latch_by_a_wire_ahead(self):
        self.judge([("fix", 1), ("latch", 0), ("latch", 1)], {}, [[1] * 4, [0, 1, 1, 1], [0, 0, 1, 1]])

    def test_a_latch_by_a_later_wire(self):
        self.judge([("latch", 1), ("not", 0)], {}, [[0, 1, 0, 1, 0], [1, 0, 1, 0, 1]])
        self.judge([("latch", 2), ("latch", 0), ("fix", 1)], {}, [[0, 1, 1, 1], [0, 0, 1, 1], [1, 1, 1, 1]])
        self.judge([("latch", 1), ("latch", 2), ("fix", 1)], {}, [[0, 0, 1, 1], [0, 1, 1, 1], [1, 1, 1, 1]])

    def test_a_latch_by_its_own_wire(self):
        self.judge([("latch", 0)], {}, [[0, 0, 0, 0]])

    def test_latches_that_lead_round(self):
        # A bit that is set at beat 0 alone goes round three latches.
        rows = [("fix", 1), ("latch", 0), ("not", 1), ("latch", 6), ("latch", 3), ("latch", 4), ("or", 5, 2)]
        self.judge(rows, {}, [[1] * 7, [0, 1, 1, 1, 1, 1, 1], [1, 0, 0, 0, 0, 0, 0], [0, 1, 0, 0, 1, 0, 0],
                              [0, 0, 1, 0, 0, 1, 0], [0, 0, 0, 1, 0, 0, 1], [1, 0, 0, 1, 0, 0, 1]])

    def test_numbers_of_beats(self):
        rows = [("latch", 1), ("not", 0), ("in", "a", 0)]
        self.assertEqual(wires_told(rows, {"a": 1}, 0), [])
        self.assertEqual(wires_told(rows, {"a": 1}, 1), [[0, 1, 1]])
        self.assertEqual(wires_told(rows, {"a": 1}, 300), [[0, 1, 1], [1, 0, 1]] * 150)

    def test_no_rows(self):
        self.assertEqual(wires_told([], {"a": 1}, 0), [])
        self.assertEqual(wires_told([], {"a": 1}, 3), [[], [], []])

    def test_many_rows(self):
        chance = random.Random(81)
        for turn in range(300):
            rows = some_rows(chance, chance.randint(1, 25))
            words = {"a": chance.randint(0, 15), "b": chance.randint(0, 15)}
            kept = (copy.deepcopy(rows), dict(words))
            self.assertEqual(wires_told(rows, words, 12), asked_wires(rows, words, 12))
            self.assertEqual((rows, words), kept)

    def test_changing_the_told_lists_changes_no_later_answer(self):
        rows = [("fix", 1), ("latch", 2), ("or", 0, 1), ("latch", 1)]
        told = wires_told(rows, {}, 5)
        told[0][0] = 0
        told[1].clear()
        self.assertEqual(told[2:], [[1, 1, 1, 1]] * 3)
        spoil(told)
        self.assertEqual(wires_told(rows, {}, 5), asked_wires(rows, {}, 5))
        again = wires_told([], {}, 3)
        again[0].append(1)
        self.assertEqual(again, [[1], [], []])

    def test_kinds_and_names_of_arguments(self):
        told = wires_told(rows=[("fix", 1), ("not", 0), ("latch", 0), ("xor", 0, 1)], words={}, beats=2)
        self.assertIs(type(told), list)
        self.assertTrue(all(type(bits) is list for bits in told))
        self.assertTrue(all(type(bit) is int for bits in told for bit in bits))


if __name__ == "__main__":
    unittest.main()
