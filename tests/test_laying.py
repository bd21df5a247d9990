import itertools
import random
import unittest

from deedloom.laying import gap, is_laying, laid
from tests.made import ALL_UNITS, SORTS, asked_gap, deeds_of, spoil


def asked_laying(deeds, units, beats):
    """Point 11, word by word."""
    if sorted(itertools.chain(*beats)) != list(range(len(deeds))):
        return False
    for beat in beats:
        if not beat or any(one >= other for one, other in zip(beat, beat[1:])):
            return False
        for sort, most in zip(SORTS, units):
            if sum(deeds[place][0] in sort for place in beat) > most:
                return False
    place_of = {place: number for number, beat in enumerate(beats) for place in beat}
    for j, k in itertools.combinations(range(len(deeds)), 2):
        lean = asked_gap(deeds[j], deeds[k])
        if lean == 1 and not place_of[j] < place_of[k] or lean == 0 and not place_of[j] <= place_of[k]:
            return False
    return True


def fewest_beats(deeds, units):
    """The least number of beats, by all sets of deeds that can be done first."""
    everything = frozenset(range(len(deeds)))
    later = {k: {j for j in range(k) if asked_gap(deeds[j], deeds[k]) == 1} for k in everything}
    never_earlier = {k: {j for j in range(k) if asked_gap(deeds[j], deeds[k]) == 0} for k in everything}

    def can_follow(done, beat):
        if any(sum(deeds[place][0] in sort for place in beat) > most for sort, most in zip(SORTS, units)):
            return False
        return all(later[k] <= done and never_earlier[k] <= done | beat for k in beat)

    reached = {frozenset()}
    for many in itertools.count():
        if everything in reached:
            return many
        reached = {done | beat for done in reached for beat in map(frozenset, subsets(everything - done))
                   if beat and can_follow(done, beat)}


def subsets(places):
    places = sorted(places)
    return itertools.chain.from_iterable(itertools.combinations(places, many) for many in range(len(places) + 1))


class Gap(unittest.TestCase):
    def judge(self, earlier, later, lean):
        self.assertIs(gap([earlier, later], 0, 1), lean)
        # Where the two stand in the list, and what stands between, does not matter.
        between = ("copy", "z", "y")
        self.assertIs(gap([between, earlier, between, between, later, between], 1, 4), lean)

    def test_a_box_read_that_was_written(self):
        for later in (("copy", "c", "a"), ("plus", "c", "a", 1), ("plus", "c", 1, "a"), ("xor", "c", "a", "a"),
                      ("tell", "a"), ("below", "a", "a", "b"), ("same", "c", "b", "a")):
            for earlier in (("copy", "a", 1), ("copy", "a", "b"), ("plus", "a", "b", "d"), ("and", "a", 1, 2),
                            ("less", "a", "a", 1), ("copy", "a", "c"), ("or", "a", "c", "a")):
                self.judge(earlier, later, 1)

    def test_a_box_written_twice(self):
        self.judge(("copy", "a", 1), ("copy", "a", 2), 1)
        self.judge(("copy", "a", 1), ("copy", "a", 1), 1)
        self.judge(("plus", "a", "b", "c"), ("less", "a", "c", "b"), 1)

    def test_a_box_read_and_written_then(self):
        for earlier in (("copy", "c", "a"), ("plus", "c", "a", 1), ("plus", "c", 1, "a"), ("tell", "a"),
                        ("same", "c", "a", "b"), ("or", "c", "a", "a")):
            for later in (("copy", "a", 1), ("copy", "a", "b"), ("xor", "a", "b", "a"), ("less", "a", 1, 2)):
                self.judge(earlier, later, 0)

    def test_read_and_written_both_ways(self):
        self.judge(("copy", "a", "b"), ("copy", "b", "a"), 1)
        self.judge(("plus", "a", "b", 1), ("plus", "b", "a", 1), 1)

    def test_tells(self):
        self.judge(("tell", "a"), ("tell", "b"), 1)
        self.judge(("tell", 1), ("tell", 1), 1)
        self.judge(("tell", 1), ("tell", 2), 1)
        self.judge(("tell", "a"), ("tell", "a"), 1)
        self.judge(("tell", "a"), ("copy", "b", "a"), None)
        self.judge(("copy", "b", "a"), ("tell", "a"), None)
        self.judge(("tell", 1), ("copy", "b", 1), None)
        self.judge(("copy", "b", 1), ("tell", 1), None)

    def test_no_leaning(self):
        self.judge(("copy", "a", 1), ("copy", "b", 1), None)
        self.judge(("copy", "a", "c"), ("copy", "b", "c"), None)
        self.judge(("plus", "a", "c", "d"), ("plus", "b", "c", "d"), None)
        self.judge(("copy", "a", "a"), ("copy", "b", "b"), None)
        self.judge(("and", "a", 1, 2), ("and", "b", 1, 2), None)

    def test_boxes_called_like_operations(self):
        self.judge(("copy", "copy", 1), ("copy", "tell", "plus"), None)
        self.judge(("plus", "tell", 1, 2), ("tell", "plus"), None)
        self.judge(("plus", "tell", 1, 2), ("tell", "tell"), 1)
        self.judge(("tell", "copy"), ("copy", "a", 1), None)

    def test_many_deeds(self):
        chance = random.Random(41)
        found = set()
        for turn in range(600):
            deeds = deeds_of(chance, 5, "abcdef")
            kept = list(deeds)
            for j, k in itertools.combinations(range(5), 2):
                found.add(gap(deeds, j, k))
                self.assertIs(gap(deeds, j, k), asked_gap(deeds[j], deeds[k]))
            self.assertEqual(deeds, kept)
        self.assertEqual(found, {0, 1, None})

    def test_arguments_have_their_names(self):
        self.assertEqual(gap(deeds=[("tell", 1), ("tell", 2)], j=0, k=1), 1)


class IsLaying(unittest.TestCase):
    # b leans on a, both tells lean on one another, the last must not come ahead of the tell of c.
    DEEDS = [("plus", "a", "x", 1), ("less", "b", "a", 1), ("tell", "c"), ("tell", "x"), ("and", "c", "x", 1)]

    def judge(self, told, beats, deeds=None, units=(1, 1, 1)):
        deeds = self.DEEDS if deeds is None else deeds
        kept = [list(beat) for beat in beats]
        self.assertIs(is_laying(deeds, units, beats), told)
        self.assertEqual(beats, kept)

    def test_layings(self):
        self.judge(True, [[0, 2, 4], [1, 3]])
        self.judge(True, [[0, 2], [1, 3, 4]])
        self.judge(True, [[0], [1], [2], [3], [4]])
        self.judge(True, [[2], [3], [4], [0], [1]])

    def test_no_deeds(self):
        self.judge(True, [], [])
        self.judge(False, [[]], [])
        self.judge(False, [[0]], [])

    def test_a_place_missing(self):
        self.judge(False, [[0, 2], [1, 3]])
        self.judge(False, [[0, 2, 4], [3]])
        self.judge(False, [[2, 4], [1, 3]])
        self.judge(False, [])

    def test_a_place_twice(self):
        self.judge(False, [[0, 2, 4], [1, 3, 4]])
        self.judge(False, [[0, 2, 2, 4], [1, 3]])
        self.judge(False, [[0, 2, 4], [1, 3], [3]])
        self.judge(False, [[0, 2, 2, 4], [3]])

    def test_a_place_of_no_deed(self):
        self.judge(False, [[0, 2, 4], [1, 3, 5]])
        self.judge(False, [[0, 2, 4], [1, 3], [5]])
        self.judge(False, [[-1, 0, 2, 4], [1, 3]])
        self.judge(False, [[0, 2, 4], [-1, 1, 3]])
        self.judge(False, [[0, 2], [-1, 1, 3]])
        self.judge(False, [[0, 2], [1, 3, 5]])
        self.judge(False, [[0, 2, 4], [1, 3], [10 ** 9]])
        self.judge(False, [[-5, -3, -1], [-4, -2]])

    def test_places_that_do_not_rise(self):
        self.judge(False, [[2, 0, 4], [1, 3]])
        self.judge(False, [[0, 2, 4], [3, 1]])
        self.judge(False, [[0, 4, 2], [1, 3]])

    def test_an_empty_beat(self):
        self.judge(False, [[], [0, 2, 4], [1, 3]])
        self.judge(False, [[0, 2, 4], [], [1, 3]])
        self.judge(False, [[0, 2, 4], [1, 3], []])

    def test_a_leaning_that_is_not_kept(self):
        self.judge(False, [[0, 1, 2, 4], [3]], units=(2, 1, 1))
        self.judge(False, [[1, 2, 4], [0, 3]])
        self.judge(False, [[0, 2, 3, 4], [1]])
        self.judge(False, [[0, 3], [1, 2, 4]])
        self.judge(False, [[0, 4], [1, 2], [3]])
        self.judge(True, [[0, 2, 4], [1, 3]], units=(2, 1, 1))

    def test_units_of_each_sort(self):
        for sort, ops in enumerate(SORTS):
            for op, other in itertools.product(ops, repeat=2):
                deeds = [(op, "a", "x", 1), (other, "b", "x", 1), (op, "c", "x", 2), (other, "d", 3, "x")]
                for units in ALL_UNITS:
                    self.judge(units[sort] >= 2, [[0, 1], [2, 3]], deeds, units)
                    self.judge(units[sort] >= 3, [[0, 1, 2], [3]], deeds, units)
                    self.judge(False, [[0, 1, 2, 3]], deeds, units)
                    self.judge(True, [[0], [1], [2], [3]], deeds, units)

    def test_sorts_do_not_share_units(self):
        deeds = [("plus", "a", "x", 1), ("below", "b", "x", 1), ("or", "c", "x", 2)]
        self.judge(True, [[0, 1, 2]], deeds)

    def test_copies_and_tells_need_no_units(self):
        deeds = [("copy", name, "x") for name in "abcdefg"] + [("tell", "x")]
        self.judge(True, [list(range(8))], deeds)

    def test_many_lists_of_beats(self):
        chance = random.Random(42)
        outcomes = {True: 0, False: 0}
        for turn in range(4000):
            many = chance.randint(0, 5)
            deeds = deeds_of(chance, many, "abcdef")
            units = chance.choice(ALL_UNITS)
            places = list(range(many))
            if chance.random() < 0.2:
                places = [chance.randint(-1, many) for place in places]
            beats = [[] for beat in range(chance.randint(0, max(many, 1)))]
            for place in places:
                if beats:
                    chance.choice(beats).append(place)
            beats = [beat for beat in beats if beat or chance.random() < 0.1]
            told = asked_laying(deeds, units, beats)
            outcomes[told] += 1
            self.assertIs(is_laying(deeds, units, beats), told)
        self.assertGreater(min(outcomes.values()), 300)

    def test_all_ways_to_lay_three_deeds(self):
        chance = random.Random(43)
        for turn in range(40):
            deeds = deeds_of(chance, 3, "abc")
            for units in ((1, 1, 1), (2, 1, 1), (1, 2, 1), (1, 1, 2), (3, 3, 3)):
                for numbers in itertools.product(range(3), repeat=3):
                    beats = [[place for place in range(3) if numbers[place] == number] for number in range(3)]
                    while beats and not beats[-1]:
                        beats.pop()
                    self.assertIs(is_laying(deeds, units, beats), asked_laying(deeds, units, beats))

    def test_arguments_have_their_names(self):
        self.assertIs(is_laying(deeds=[], units=(1, 1, 1), beats=[]), True)


class Laid(unittest.TestCase):
    def judge(self, deeds, units, many=None):
        kept = list(deeds)
        beats = laid(deeds, units)
        self.assertEqual(deeds, kept)
        self.assertIs(type(beats), list)
        self.assertTrue(all(type(beat) is list for beat in beats))
        self.assertTrue(all(type(place) is int for beat in beats for place in beat))
        self.assertTrue(asked_laying(deeds, units, beats), (deeds, units, beats))
        self.assertIs(is_laying(deeds, units, beats), True)
        self.assertEqual(len(beats), fewest_beats(deeds, units) if many is None else many)

    def test_no_deeds(self):
        for units in ALL_UNITS:
            self.assertEqual(laid([], units), [])

    def test_one_deed_of_each_kind(self):
        for deed in [("copy", "a", 1), ("tell", "a")] + [(op, "a", "a", "b") for ops in SORTS for op in ops]:
            self.assertEqual(laid([deed], (1, 1, 1)), [[0]])

    def test_eight_deeds_without_leaning(self):
        for sort, ops in enumerate(SORTS):
            deeds = [(ops[place % len(ops)], name, "x", "y") for place, name in enumerate("abcdefgh")]
            for units in ALL_UNITS:
                self.judge(deeds, units, (8 + units[sort] - 1) // units[sort])

    def test_eight_copies_and_eight_tells(self):
        self.judge([("copy", name, "x") for name in "abcdefgh"], (1, 1, 1), 1)
        self.judge([("tell", "x")] * 8, (3, 3, 3), 8)
        self.judge([("copy", "x", "x")] * 8, (3, 3, 3), 8)

    def test_a_box_read_and_written_in_one_beat(self):
        self.judge([("copy", "t", "a"), ("copy", "a", "b"), ("copy", "b", "c")], (1, 1, 1), 1)
        self.judge([("tell", "a"), ("copy", "a", 1)], (1, 1, 1), 1)

    def test_the_unit_must_go_to_the_later_deed(self):
        # The first sums lead to nothing; the last one begins a chain.
        deeds = [("plus", "a", "x", 1), ("plus", "b", "x", 1), ("plus", "c", "x", 1), ("copy", "d", "c"),
                 ("copy", "e", "d"), ("copy", "f", "e")]
        self.judge(deeds, (1, 1, 1), 4)
        # Leanings that hold a deed back keep a unit from being used at once.
        deeds = [("plus", "a", "b", 1), ("plus", "b", "x", 1), ("copy", "c", "b"), ("copy", "d", "c"),
                 ("less", "e", "x", 1)]
        for units in ((1, 1, 1), (2, 1, 1), (3, 1, 1)):
            self.judge(deeds, units)

    def test_many_lists_of_deeds(self):
        chance = random.Random(44)
        for many in range(9):
            for turn in range(60 if many < 8 else 40):
                deeds = deeds_of(chance, many, chance.choice(("ab", "abcd", "abcdefgh")))
                self.judge(deeds, chance.choice(ALL_UNITS))

    def test_lists_of_few_sorts(self):
        chance = random.Random(45)
        for turn in range(60):
            many = chance.randint(5, 7)
            deeds = [(chance.choice(("plus", "less", "below")), chance.choice("abcdefgh"), chance.choice("abcdefgh"),
                      chance.choice("abcdefgh")) for place in range(many)]
            self.judge(deeds, (chance.randint(1, 2), chance.randint(1, 2), 1))

    def test_changing_a_laying_changes_no_later_answer(self):
        chance = random.Random(46)
        for turn in range(30):
            deeds = deeds_of(chance, 6, "abcdef")
            first = laid(deeds, (1, 2, 1))
            again = laid(deeds, (1, 2, 1))
            spoil(first)
            self.assertEqual(laid(deeds, (1, 2, 1)), again)

    def test_arguments_have_their_names(self):
        self.assertEqual(laid(deeds=[], units=(1, 1, 1)), [])


if __name__ == "__main__":
    unittest.main()
