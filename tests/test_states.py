import copy
import itertools
import random
import unittest

from deedloom.program import Program
from deedloom.states import fewer_states
from deedloom.table import run_table, table_of
from tests.made import ALL_UNITS, led_to, lively_programs, program_of, reached, spoil, table_for, words_of


def alike_pairs(table):
    """All pairs of alike states: pairs are struck out as long as something tells them apart."""
    def shape(place):
        deeds, ending = table[place]
        return (deeds, [part if isinstance(part, str) else "place" for part in ending])

    pairs = {(j, k) for j, k in itertools.product(range(len(table)), repeat=2) if shape(j) == shape(k)}
    while True:
        apart = {(j, k) for j, k in pairs
                 if any(ways not in pairs for ways in zip(led_to(table[j][1]), led_to(table[k][1])))}
        if not apart:
            return pairs
        pairs -= apart


class FewerStates(unittest.TestCase):
    def judge(self, table):
        kept = copy.deepcopy(table)
        told = fewer_states(table)
        self.assertEqual(table, kept)
        self.assertIs(type(told), tuple)
        fewer, places = told
        self.assertIs(type(fewer), list)
        self.assertIs(type(places), list)
        self.assertEqual(len(places), len(table))
        ways = reached(table)
        pairs = alike_pairs(table)
        for old, new in enumerate(places):
            self.assertEqual(new is not None, old in ways)
        for j, k in itertools.product(sorted(ways), repeat=2):
            self.assertEqual(places[j] == places[k], (j, k) in pairs)
        self.assertEqual(places[0], 0)
        self.assertEqual(set(places) - {None}, set(range(len(fewer))))
        for old in ways:
            deeds, ending = table[old]
            self.assertEqual(fewer[places[old]], (deeds, tuple(
                part if isinstance(part, str) else places[part] for part in ending)))
            self.assertIs(type(fewer[places[old]]), tuple)
            self.assertIs(type(fewer[places[old]][0]), list)
            self.assertIs(type(fewer[places[old]][1]), tuple)
        return told

    def test_one_state(self):
        self.assertEqual(self.judge([([], ("stop",))]), ([([], ("stop",))], [0]))
        self.assertEqual(self.judge([([("tell", 1)], ("go", 0))]), ([([("tell", 1)], ("go", 0))], [0]))

    def test_alike_states_become_one(self):
        table = [([], ("choose", "a", 1, 2)), ([("tell", 1)], ("go", 3)), ([("tell", 1)], ("go", 4)),
                 ([("tell", 2)], ("stop",)), ([("tell", 2)], ("stop",))]
        self.assertEqual(self.judge(table)[1], [0, 1, 1, 2, 2])

    def test_alike_states_that_lead_round_to_one_another(self):
        table = [([("tell", 1)], ("go", 1)), ([("tell", 1)], ("go", 2)), ([("tell", 1)], ("go", 0))]
        self.assertEqual(self.judge(table), ([([("tell", 1)], ("go", 0))], [0, 0, 0]))
        table = [([("tell", 1)], ("go", 1)), ([("tell", 2)], ("go", 2)), ([("tell", 1)], ("go", 3)),
                 ([("tell", 2)], ("go", 0))]
        self.assertEqual(self.judge(table)[1], [0, 1, 0, 1])
        table = [([], ("choose", "a", 1, 2)), ([], ("choose", "a", 0, 2)), ([], ("stop",))]
        self.assertEqual(self.judge(table)[1], [0, 0, 1])

    def test_a_long_way_tells_states_apart(self):
        # Two chains that differ only at their far ends, and one that does not.
        chain = [([("tell", 1)], ("go", k + 1)) for k in range(1, 10)]
        other = [([("tell", 1)], ("go", k + 1)) for k in range(11, 20)]
        table = [([], ("choose", "a", 1, 11))] + chain + [([], ("stop",))] + other + [([("tell", 0)], ("stop",))]
        self.assertEqual(self.judge(table)[1], list(range(21)))
        table[20] = ([], ("stop",))
        self.assertEqual(self.judge(table)[1], list(range(11)) + list(range(1, 11)))

    def test_states_that_are_not_alike_stay_apart(self):
        pairs = (
            (([("tell", 1)], ("stop",)), ([("tell", 2)], ("stop",))),
            (([("tell", 1)], ("stop",)), ([("tell", "a")], ("stop",))),
            (([("tell", 1)], ("stop",)), ([], ("stop",))),
            (([("copy", "a", 1), ("copy", "b", 1)], ("stop",)), ([("copy", "b", 1), ("copy", "a", 1)], ("stop",))),
            (([], ("stop",)), ([], ("go", 0))),
            (([], ("go", 0)), ([], ("choose", "a", 0, 0))),
            (([], ("choose", "a", 0, 1)), ([], ("choose", "b", 0, 1))),
            (([], ("choose", "a", 0, 1)), ([], ("choose", "a", 1, 0))),
            (([], ("go", 0)), ([], ("go", 3))),
        )
        for one, other in pairs:
            table = [([("tell", 9)], ("choose", "a", 1, 2)), one, other, ([("tell", 8)], ("stop",))]
            self.assertNotEqual(*self.judge(table)[1][1:3])

    def test_none_where_no_way_leads(self):
        table = [([], ("go", 2)), ([], ("go", 2)), ([("tell", 1)], ("stop",)), ([], ("go", 4)), ([], ("go", 3))]
        self.assertEqual(self.judge(table), ([([], ("go", 1)), ([("tell", 1)], ("stop",))], [0, None, 1, None, None]))

    def test_state_nought_stays_where_a_later_one_is_alike(self):
        table = [([("tell", 1)], ("go", 1)), ([], ("go", 2)), ([("tell", 1)], ("go", 1))]
        self.assertEqual(self.judge(table)[1], [0, 1, 0])

    def test_tables_of_programs_with_alike_lists(self):
        rows = [("if", "a", [("tell", 1), ("tell", "b")], [("tell", 1), ("tell", "b")]),
                ("while", "b", [("less", "b", "b", 1), ("if", "a", [("tell", 2)], [("tell", 2)])])]
        for units in ALL_UNITS:
            self.judge(table_of(Program(3, ["a", "b"], [], rows), units))

    def test_many_tables(self):
        chance = random.Random(71)
        made_less = 0
        for turn in range(300):
            program = Program(1, ["a"], ["b"], [])
            table = table_for(chance, program, chance.randint(1, 9))
            for place in range(len(table)):
                ending = table[place][1] if chance.random() < 0.4 else ("go", chance.randrange(len(table)))
                table[place] = ([("tell", chance.choice((1, 1, 1, 2)))], ending)
            made_less += len(self.judge(table)[0]) < len(reached(table))
        self.assertGreater(made_less, 30)

    def test_tables_of_many_programs_tell_the_same_beat_by_beat(self):
        chance = random.Random(72)
        for program, words in lively_programs(72, 120):
            table = table_of(program, chance.choice(ALL_UNITS))
            fewer = self.judge(table)[0]
            for most in range(0, 50, 3):
                self.assertEqual(run_table(program, fewer, words, most), run_table(program, table, words, most))

    def test_other_tables_tell_the_same_beat_by_beat(self):
        chance = random.Random(73)
        for turn in range(100):
            program = program_of(chance, 0, 3)
            table = table_for(chance, program, chance.randint(1, 8))
            words = words_of(chance, program)
            fewer = self.judge(table)[0]
            for most in range(0, 40, 3):
                self.assertEqual(run_table(program, fewer, words, most), run_table(program, table, words, most))

    def test_changing_what_is_told_changes_nothing(self):
        table = [([], ("choose", "a", 1, 2)), ([("tell", 1)], ("stop",)), ([("tell", 1)], ("stop",))]
        kept = copy.deepcopy(table)
        again = fewer_states(table)
        spoil(fewer_states(table))
        self.assertEqual(table, kept)
        self.assertEqual(fewer_states(table=table), again)
        spoil(table)
        self.assertEqual(again, ([([], ("choose", "a", 1, 1)), ([("tell", 1)], ("stop",))], [0, 1, 1]))


if __name__ == "__main__":
    unittest.main()
