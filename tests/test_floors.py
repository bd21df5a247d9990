import itertools
import random
import unittest

from deedloom.floors import floor_of
from deedloom.laying import laid
from tests.made import ALL_UNITS, SORTS, asked_gap, deeds_of, spoil


def is_chain(deeds, places):
    rising = all(0 <= place < len(deeds) for place in places)
    return rising and all(j < k and asked_gap(deeds[j], deeds[k]) == 1 for j, k in zip(places, places[1:]))


def longest(deeds):
    """How long the longest chain is, by all sets of places."""
    return max(many for many in range(len(deeds) + 1) for places in itertools.combinations(range(len(deeds)), many)
               if is_chain(deeds, places))


def load(deeds, units, sort):
    many = sum(deed[0] in SORTS[sort] for deed in deeds)
    return many // units[sort] + (many % units[sort] > 0)


class Floors(unittest.TestCase):
    def judge(self, deeds, units):
        kept = list(deeds)
        told = floor_of(deeds, units)
        self.assertEqual(deeds, kept)
        self.assertIs(type(told), tuple)
        many, paper = told
        self.assertIs(type(many), int)
        self.assertIs(type(paper), tuple)
        self.assertEqual(len(paper), 2)
        chain = longest(deeds)
        loads = [load(deeds, units, sort) for sort in range(3)]
        self.assertEqual(many, max([chain] + loads))
        if chain == many:
            self.assertEqual(paper[0], "chain")
            self.assertIs(type(paper[1]), list)
            self.assertEqual(len(paper[1]), many)
            self.assertTrue(is_chain(deeds, paper[1]))
        else:
            self.assertEqual(paper[0], "load")
            self.assertIs(type(paper[1]), int)
            self.assertEqual(loads[paper[1]], many)
        self.assertGreaterEqual(len(laid(deeds, units)), many)
        return told

    def test_no_deeds(self):
        for units in ALL_UNITS:
            self.assertEqual(floor_of([], units), (0, ("chain", [])))

    def test_one_deed(self):
        for op in ("plus", "less", "and", "or", "xor", "below", "same"):
            self.assertEqual(floor_of([(op, "a", "b", 1)], (1, 1, 1)), (1, ("chain", [0])))
        self.assertEqual(floor_of([("copy", "a", 1)], (1, 1, 1)), (1, ("chain", [0])))
        self.assertEqual(floor_of([("tell", "a")], (1, 1, 1)), (1, ("chain", [0])))

    def test_a_chain(self):
        deeds = [("copy", "x", 1), ("copy", "a", 1), ("copy", "y", 2), ("plus", "b", "a", 1), ("tell", "b"),
                 ("tell", "z")]
        self.assertEqual(self.judge(deeds, (1, 1, 1)), (4, ("chain", [1, 3, 4, 5])))

    def test_chains_by_each_way_of_leaning(self):
        self.assertEqual(self.judge([("tell", 1)] * 8, (1, 1, 1)), (8, ("chain", list(range(8)))))
        self.assertEqual(self.judge([("copy", "a", 1)] * 8, (1, 1, 1)), (8, ("chain", list(range(8)))))
        self.assertEqual(self.judge([("copy", "a", "b"), ("copy", "b", "a"), ("tell", "b")], (1, 1, 1)),
                         (3, ("chain", [0, 1, 2])))

    def test_a_deed_that_must_only_not_come_earlier_makes_no_chain(self):
        self.assertEqual(self.judge([("copy", "a", "b"), ("copy", "b", "c"), ("copy", "c", "d")], (1, 1, 1))[0], 1)
        self.assertEqual(self.judge([("tell", "b"), ("copy", "b", 1)], (1, 1, 1))[0], 1)

    def test_a_chain_is_counted_by_its_own_leanings_alone(self):
        # Each laying has three beats, but no chain shows it: y is written only not ahead of being read.
        deeds = [("copy", "x", 1), ("plus", "z", "x", "y"), ("copy", "y", 2), ("copy", "w", "y")]
        self.assertEqual(self.judge(deeds, (3, 3, 3))[0], 2)
        self.assertEqual(len(laid(deeds, (3, 3, 3))), 3)

    def test_the_longest_chain_is_not_the_first(self):
        deeds = [("copy", "a", 1), ("copy", "b", "a"), ("copy", "c", 1), ("copy", "d", "c"), ("copy", "e", "d"),
                 ("copy", "f", "b")]
        self.assertEqual(self.judge(deeds, (1, 1, 1))[0], 3)

    def test_a_load_of_each_sort(self):
        for sort, ops in enumerate(SORTS):
            for many in range(2, 9):
                deeds = [(ops[place % len(ops)], name, "x", "y") for place, name in enumerate("abcdefgh"[:many])]
                for units in ALL_UNITS:
                    told = self.judge(deeds, units)
                    asked_many = -(-many // units[sort])
                    self.assertEqual(told[0], asked_many)
                    self.assertEqual(told[1], ("load", sort) if asked_many > 1 else ("chain", told[1][1]))

    def test_the_greatest_of_several_loads(self):
        deeds = [("plus", "a", "x", 1), ("less", "b", "x", 1), ("plus", "c", "x", 1), ("below", "d", "x", 1),
                 ("same", "e", "x", 1), ("or", "f", "x", 1), ("and", "g", "x", 1)]
        self.assertEqual(self.judge(deeds, (1, 1, 1)), (3, ("load", 0)))
        self.assertEqual(self.judge(deeds, (3, 1, 2)), (2, ("load", 1)))
        self.assertEqual(self.judge(deeds, (3, 2, 1)), (2, ("load", 2)))
        self.assertIn(self.judge(deeds, (2, 1, 1)), [(2, ("load", sort)) for sort in range(3)])

    def test_a_chain_is_told_where_both_show_it(self):
        deeds = [("plus", "a", "x", 1), ("plus", "b", "x", 1), ("plus", "c", "a", 1), ("plus", "d", "c", 1)]
        self.assertEqual(self.judge(deeds[:3], (2, 1, 1)), (2, ("chain", [0, 2])))
        self.assertEqual(self.judge(deeds, (1, 1, 1)), (4, ("load", 0)))
        self.assertEqual(self.judge(deeds + [("tell", "d")], (1, 1, 1)), (4, ("chain", [0, 2, 3, 4])))

    def test_many_lists_of_deeds(self):
        chance = random.Random(51)
        found = set()
        for turn in range(300):
            deeds = deeds_of(chance, chance.randint(0, 8), chance.choice(("abc", "abcdef", "abcdefgh")))
            found.add(self.judge(deeds, chance.choice(ALL_UNITS))[1][0])
        self.assertEqual(found, {"chain", "load"})

    def test_changing_what_is_told_changes_no_later_answer(self):
        deeds = [("tell", 1), ("tell", 2)]
        spoil(floor_of(deeds, (1, 1, 1)))
        self.assertEqual(floor_of(deeds=deeds, units=(1, 1, 1)), (2, ("chain", [0, 1])))
        spoil(floor_of([], (1, 1, 1)))
        self.assertEqual(floor_of([], (1, 1, 1)), (0, ("chain", [])))


if __name__ == "__main__":
    unittest.main()
