import copy
import itertools
import random
import unittest

from deedloom.net import Net, net_of, run_net
from deedloom.program import Program
from deedloom.states import fewer_states
from deedloom.table import table_of
from tests.made import (ALL_UNITS, OPS, asked_wires, boxes_on, judge_beats, judge_net, judge_told, latches,
                        lively_programs, net_parts, parts, program_of, spoil, traced_states, word_on, words_of)


def all_words(program):
    words = itertools.product(range(2 ** program.width), repeat=len(program.ins))
    return [dict(zip(program.ins, chosen)) for chosen in words]


def most_latches(program, table):
    """The bound of point 22."""
    bits = 0
    while 2 ** bits < len(table) + 2:
        bits += 1
    return program.width * len(program.boxes) + bits + 1


class Judged(unittest.TestCase):
    def judge(self, program, table, words_lists, most=40):
        kept = (parts(program), copy.deepcopy(table))
        for coded in (False, True):
            net = net_of(program, table, coded)
            self.assertIs(type(net), Net)
            judge_net(self, program, net)
            if coded:
                self.assertLessEqual(latches(net), most_latches(program, table))
            for words in words_lists:
                judge_beats(self, program, table, net, words, most)
        self.assertEqual((parts(program), table), kept)

    def through(self, program, units, words_lists, most=40):
        """The same for a program's table and for it made fewer."""
        table = table_of(program, units)
        self.judge(program, table, words_lists, most)
        self.judge(program, fewer_states(table)[0], words_lists, most)


class NetOf(Judged):
    def test_no_statements(self):
        for width in range(1, 9):
            self.through(Program(width, [], [], []), (1, 1, 1), [{}])
            program = Program(width, ["a", "b"], ["c"], [])
            self.through(program, (1, 1, 1), [{"a": 2 ** width - 1, "b": 1}, {"a": 0, "b": 0}])

    def test_each_operation_with_all_words(self):
        for op in OPS:
            for width in (1, 2, 3):
                program = Program(width, ["a", "b"], ["c"], [(op, "c", "a", "b"), ("tell", "c")])
                self.through(program, (1, 1, 1), all_words(program), 5)

    def test_each_operation_with_a_written_word(self):
        for op in OPS:
            for word in range(8):
                rows = [(op, "c", "a", word), ("tell", "c"), (op, "a", word, "a"), ("tell", "a"), (op, "a", "c", "c")]
                program = Program(3, ["a"], ["c"], rows)
                self.through(program, (1, 1, 1), all_words(program), 8)

    def test_each_operation_by_written_words_alone(self):
        for op in OPS:
            for x, y in itertools.product((0, 1, 2, 3), repeat=2):
                self.through(Program(2, [], ["c"], [(op, "c", x, y), ("tell", "c")]), (1, 1, 1), [{}], 5)

    def test_each_operation_of_each_width(self):
        chance = random.Random(91)
        for width in range(1, 9):
            top = 2 ** width - 1
            for op in OPS:
                program = Program(width, ["a", "b"], ["c"], [(op, "c", "a", "b"), ("tell", "c"), (op, "a", "a", "b")])
                pairs = [(0, 0), (top, top), (top, 0), (0, top), (1, top), (top, 1)]
                pairs += [(chance.randint(0, top), chance.randint(0, top)) for turn in range(4)]
                self.through(program, (1, 1, 1), [{"a": x, "b": y} for x, y in pairs], 5)

    def test_copies_and_tells(self):
        rows = [("copy", "c", "a"), ("tell", 5), ("tell", "c"), ("copy", "a", 6), ("copy", "c", "c"), ("tell", "a")]
        program = Program(3, ["a"], ["c"], rows)
        self.through(program, (1, 1, 1), all_words(program), 10)

    def test_boxes_that_change_hands(self):
        rows = [("copy", "c", "a"), ("copy", "a", "b"), ("copy", "b", "c"), ("tell", "a"), ("tell", "b")]
        program = Program(2, ["a", "b"], ["c"], rows)
        self.through(program, (1, 1, 1), all_words(program), 10)
        rows = [("tell", "a"), ("copy", "a", 1), ("copy", "c", "b"), ("copy", "b", 2), ("tell", "a"), ("tell", "c")]
        self.through(Program(2, ["a", "b"], ["c"], rows), (1, 1, 1), all_words(program), 10)

    def test_ifs_and_whiles(self):
        for rows in (
                [("if", "a", [("tell", 1)], [("tell", 2)]), ("tell", "b")],
                [("while", "a", [("tell", "a"), ("less", "a", "a", 1)]), ("tell", "b")],
                [("while", "a", [])],
                [("if", "a", [], [])],
                [("while", "a", [("while", "b", [("less", "b", "b", 1)]), ("less", "a", "a", 1)])],
                [("less", "a", "a", 1), ("if", "a", [("tell", "a")], []), ("while", "b", [("copy", "b", 0)])]):
            program = Program(2, ["a", "b"], ["c"], rows)
            self.through(program, (1, 1, 1), all_words(program), 25)

    def test_a_table_that_never_stops(self):
        program = Program(3, ["a"], [], [("while", "a", [("tell", "a"), ("xor", "a", "a", 6)])])
        self.through(program, (1, 1, 1), all_words(program), 60)

    def test_an_if_whose_lists_are_alike(self):
        rows = [("if", "a", [("tell", 1), ("tell", 2)], [("tell", 1), ("tell", 2)]), ("tell", 3)]
        program = Program(2, ["a"], [], rows)
        self.through(program, (1, 1, 1), all_words(program), 10)

    def test_each_width_and_units(self):
        chance = random.Random(92)
        for width in range(1, 9):
            for turn, (program, words) in enumerate(lively_programs(920 + width, 10, width)):
                self.through(program, chance.choice(ALL_UNITS), [words, words_of(chance, program)], 30)

    def test_all_units(self):
        deeds = [(op, name, "a", "b") for op, name in zip(("plus", "less", "plus", "below", "same", "or"), "cdefgh")]
        program = Program(2, ["a", "b"], list("cdefgh"), deeds + [("tell", name) for name in "cdefgh"])
        for units in ALL_UNITS:
            self.through(program, units, [{"a": 3, "b": 1}, {"a": 0, "b": 2}], 12)

    def test_programs_of_all_names_and_depths(self):
        chance = random.Random(93)
        for turn in range(25):
            program = program_of(chance)
            self.through(program, chance.choice(ALL_UNITS), [words_of(chance, program)], 30)

    def test_large_programs(self):
        names = list("abcdefgh")
        chance = random.Random(94)
        deeds = [(op, chance.choice(names), chance.choice(names), chance.choice(names))
                 for op in ("plus", "less", "below", "same") * 10]
        words = {"a": 255, "b": 129, "c": 7, "d": 64}
        for rows in (deeds, [("if", name, [deed], []) for name, deed in zip(names * 3, deeds[:20])],
                     [("while", name, [deed, ("less", name, name, 1)]) for name, deed in zip(names * 2, deeds[:13])],
                     [("if", name, [], []) for name in names * 5], [("tell", name) for name in names * 5]):
            self.through(Program(8, names[:4], names[4:], rows), (1, 1, 1), [words], 60)

    def test_a_long_run(self):
        program = Program(8, ["a"], ["b"], [("while", "a", [("less", "a", "a", 1), ("plus", "b", "b", 3)])])
        self.through(program, (1, 1, 1), [{"a": 70}], 299)


class Coded(Judged):
    def test_tables_of_few_and_many_states(self):
        for many in list(range(20)) + [29, 30, 31, 38, 40]:
            # Tells can't share a beat, so there are as many states at least.
            program = Program(2, ["a"], ["b"], [("tell", chosen) for chosen in ("a", 1, "b", 2) * 10][:many])
            self.through(program, (1, 1, 1), [{"a": 3}], many + 5)

    def test_states_that_choose(self):
        for many in range(1, 8):
            rows = [("while", "a", [("less", "a", "a", 1)] + [("if", "b", [("tell", "a")], [("tell", 1)])] * many),
                    ("tell", 3)]
            program = Program(2, ["a", "b"], [], rows)
            self.through(program, (1, 1, 1), all_words(program), 40)

    def test_the_last_argument(self):
        program = Program(2, ["a"], ["b"], [("tell", "a")] * 12)
        table = table_of(program, (1, 1, 1))
        plain = net_of(program, table)
        self.assertEqual(net_parts(plain), net_parts(net_of(program, table, False)))
        self.assertEqual(net_parts(plain), net_parts(net_of(program=program, table=table, coded=False)))
        coded = net_of(program, table, True)
        self.assertEqual(net_parts(coded), net_parts(net_of(program, table, coded=True)))
        self.assertLessEqual(latches(coded), most_latches(program, table))
        for net in (plain, coded):
            judge_beats(self, program, table, net, {"a": 2})


class RunNet(unittest.TestCase):
    def asked(self, net, words, beats):
        told = asked_wires(net.rows, words, beats)
        said = [word_on(net.said, bits) for bits in told if bits[net.tell]]
        last = told[-1] if told else [0] * len(net.rows)
        return (said, boxes_on(net, last), bool(last[net.stop]))

    def nets(self):
        chance = random.Random(96)
        for program, words in lively_programs(96, 30):
            table = table_of(program, chance.choice(ALL_UNITS))
            yield program, table, net_of(program, table, chance.random() < 0.5), words

    def test_numbers_of_beats(self):
        rows = [("tell", 3), ("tell", "a"), ("copy", "b", 2)]
        program = Program(2, ["a"], ["b"], rows)
        table = table_of(program, (1, 1, 1))
        trace = traced_states(program, table, {"a": 1}, 50, True)
        last = trace.over_at
        for coded in (False, True):
            net = net_of(program, table, coded)
            self.assertEqual(run_net(net, {"a": 1}, 0), ([], {"a": 0, "b": 0}, False))
            self.assertEqual(run_net(net, {"a": 1}, 1)[::2], ([], False))
            self.assertEqual(run_net(net, {"a": 1}, 2), (trace.told_behind(1), {"a": 1, "b": 0}, False))
            self.assertEqual(run_net(net, {"a": 1}, last + 1), ([3, 1], trace.at(last - 1)[1], False))
            for beats in (last + 2, last + 3, 300):
                self.assertEqual(run_net(net, {"a": 1}, beats), ([3, 1], {"a": 1, "b": 2}, True))

    def test_no_statements_stop_soon(self):
        program = Program(2, ["a"], [], [])
        net = net_of(program, table_of(program, (1, 1, 1)))
        self.assertEqual(run_net(net, {"a": 3}, 0), ([], {"a": 0}, False))
        self.assertEqual(run_net(net, {"a": 3}, 2), ([], {"a": 3}, False))
        self.assertEqual(run_net(net, {"a": 3}, 300), ([], {"a": 3}, True))
        empty = Program(1, [], [], [])
        self.assertEqual(run_net(net_of(empty, table_of(empty, (1, 1, 1))), {}, 9), ([], {}, True))

    def test_a_net_tells_what_its_table_tells(self):
        for program, table, net, words in self.nets():
            trace = traced_states(program, table, words, 60, True)
            for beats in range(2, 40):
                # Behind so many beats the last one was the table's beat number beats - 2.
                said, boxes, over = run_net(net, words, beats)
                self.assertEqual(said, trace.told_behind(beats - 1))
                self.assertEqual(boxes, trace.at(beats - 2)[1])
                self.assertEqual(over, trace.over_at is not None and trace.over_at <= beats - 2)

    def test_as_its_wires_tell(self):
        for program, table, net, words in self.nets():
            for beats in (0, 2, 3, 7, 20):
                self.assertEqual(run_net(net, words, beats), self.asked(net, words, beats))

    def test_three_hundred_beats_without_end(self):
        program = Program(8, ["a"], [], [("while", "a", [("tell", "a"), ("plus", "a", "a", 2)])])
        table = table_of(program, (1, 1, 1))
        net = net_of(program, table)
        trace = traced_states(program, table, {"a": 1}, 300, True)
        self.assertEqual(run_net(net, {"a": 1}, 300), (trace.told_behind(299), trace.at(298)[1], False))

    def test_what_is_handed_in_stays_and_what_is_told_is_the_askers_own(self):
        for program, table, net, words in self.nets():
            kept = (dict(words), net_parts(net))
            for beats in (0, 1, 9):
                first = run_net(net, words, beats)
                again = run_net(net, words, beats)
                spoil(first)
                self.assertEqual(run_net(net, words, beats), again)
            self.assertEqual((words, net_parts(net)), kept)

    def test_changing_a_net_changes_no_later_net(self):
        program = Program(2, ["a"], ["b"], [("plus", "b", "a", 1), ("tell", "b")])
        table = table_of(program, (1, 1, 1))
        for coded in (False, True):
            first = net_of(program, table, coded)
            again = net_parts(net_of(program, table, coded))
            for field in (first.rows, first.boxes, first.said):
                spoil(field)
            self.assertEqual(net_parts(net_of(program, table, coded)), again)
            self.assertEqual(table, table_of(program, (1, 1, 1)))

    def test_a_net_keeps_nothing_of_what_it_was_made_of(self):
        rows = [("while", "a", [("less", "a", "a", 1), ("tell", "a")])]
        program = Program(2, ["a"], [], rows)
        table = table_of(program, (1, 1, 1))
        net = net_of(program, table)
        told = run_net(net, {"a": 3}, 60)
        spoil(table)
        spoil(program.rows)
        spoil(program.boxes)
        spoil(program.ins)
        self.assertEqual(run_net(net, {"a": 3}, 60), told)
        self.assertEqual(told, ([2, 1, 0], {"a": 0}, True))

    def test_words_are_not_told_again(self):
        program = Program(2, ["a", "b"], [], [])
        words = {"a": 3, "b": 1}
        spoil(run_net(net_of(program, table_of(program, (1, 1, 1))), words, 9))
        self.assertEqual(words, {"a": 3, "b": 1})

    def test_kinds_and_names_of_arguments(self):
        program = Program(2, ["a"], ["b"], [("same", "b", "a", 1), ("tell", "b"), ("below", "b", "a", 3)])
        net = net_of(program, table_of(program, (1, 1, 1)))
        for beats in (0, 2, 3, 50):
            judge_told(self, run_net(net=net, words={"a": 1}, beats=beats))


if __name__ == "__main__":
    unittest.main()
