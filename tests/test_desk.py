import random
import unittest

from deedloom import errors
from deedloom.desk import Desk
from deedloom.errors import LoomError, NoLine, NoName, NoProgram, TooGreat, TooLong
from deedloom.table import run_table, table_of
from deedloom.text import read, shown
from deedloom.trim import trimmed
from tests.made import lively_programs, traced

COUNT = "program width 3 / in n / in m / box c / while n / tell n / n = n less 1 / c = c plus 2 / end / tell m"
# Neither over behind 1,000 steps nor round by then.
LONG = ("program width 8 / in n / box x / while n / n = n less 1 / x = 200 / while x / x = x less 1 / end / end")


class Said(unittest.TestCase):
    def setUp(self):
        self.desk = Desk()

    def say(self, *lines):
        return [self.desk.say(line) for line in lines][-1]

    def refused(self, line, kind, desk=None):
        desk = desk or self.desk
        before = self.standing(desk)
        with self.assertRaises(LoomError, msg=repr(line)) as taken:
            desk.say(line)
        self.assertIs(type(taken.exception), kind, line)
        self.assertIsInstance(taken.exception, ValueError)
        self.assertEqual(self.standing(desk), before)

    def standing(self, desk):
        """All that a desk has, as far as its answers show it."""
        told = [desk.say(line) for line in ("steps 0", "steps 30", "boxes 0", "boxes 30", "beats 40", "gates 40")]
        try:
            told.append(desk.say("ever"))
        except TooLong:
            told.append("too long")
        # More sums in a beat make an end sooner, so each number of beats shows the units.
        return told + [desk.say(f"beats {beats}") for beats in range(0, 30)]


class Answers(Said):
    def test_what_stands_at_first(self):
        self.assertEqual(self.say("steps 0"), "over")
        self.assertEqual(self.say("steps 1000"), "over")
        self.assertEqual(self.say("boxes 5"), "over")
        self.assertEqual(self.say("beats 0"), "going")
        self.assertEqual(self.say("beats 300"), "over")
        self.assertEqual(self.say("gates 0"), "going")
        self.assertEqual(self.say("gates 300"), "over")
        self.assertEqual(self.say("ever"), "over")
        self.refused("word a 0", NoName)
        self.assertEqual(self.say("trim"), "ok")
        self.assertEqual(self.say("units 1 1 1"), "ok")

    def by_table(self, lines, units):
        """What the desk is to answer to each number of beats, by the table for these units."""
        program = read(lines)
        table = table_of(program, units)
        answers = []
        for beats in range(40):
            told, boxes, over = run_table(program, table, {name: 0 for name in program.ins}, beats)
            answers.append(" ".join(["over" if over else "going"] + [str(word) for word in told]))
        return answers

    def test_units(self):
        for op in ("plus", "below", "xor"):
            lines = ["width 3"] + [f"box {name}" for name in "abcdefgh"]
            lines += [f"{name} = a {op} 1" for name in "hgfedcba"] + ["tell h", "tell a"]
            desk = Desk()
            desk.say("program " + " / ".join(lines))
            self.assertEqual([desk.say(f"beats {beats}") for beats in range(40)], self.by_table(lines, (1, 1, 1)))
            # One unit at first: eight deeds of one sort can't be done in seven beats.
            self.assertEqual(desk.say("beats 7")[:5], "going")
            for units in ((3, 3, 3), (3, 1, 1), (1, 3, 1), (1, 1, 3), (2, 2, 2), (1, 2, 3), (1, 1, 1)):
                self.assertEqual(desk.say("units " + " ".join(str(unit) for unit in units)), "ok")
                self.assertEqual([desk.say(f"beats {beats}") for beats in range(40)], self.by_table(lines, units))

    def test_program(self):
        self.assertEqual(self.say(COUNT), "ok")
        self.assertEqual(self.say("steps 1000"), "over 0")
        self.assertEqual(self.say("program width 1 / tell 1"), "ok")
        self.assertEqual(self.say("steps 1"), "over 1")
        self.assertEqual(self.say("program width 8"), "ok")
        self.assertEqual(self.say("steps 1"), "over")

    def test_program_sets_all_words_to_nought(self):
        self.say(COUNT, "word n 3", "word m 5")
        self.assertEqual(self.say("steps 1000"), "over 3 2 1 5")
        self.assertEqual(self.say(COUNT), "ok")
        self.assertEqual(self.say("steps 1000"), "over 0")
        self.say("word n 3", "word m 5", "program width 3 / in m / box n / tell m / tell n")
        self.assertEqual(self.say("steps 9"), "over 0 0")

    def test_program_keeps_the_units(self):
        lines = ["width 3", "box a", "box b", "a = a plus 1", "b = b plus 1"]
        self.say("units 2 1 1", "program " + " / ".join(lines))
        self.assertEqual([self.say(f"beats {beats}") for beats in range(40)], self.by_table(lines, (2, 1, 1)))

    def test_word(self):
        self.say(COUNT)
        self.assertEqual(self.say("word m 7"), "ok")
        self.assertEqual(self.say("steps 1000"), "over 7")
        self.assertEqual(self.say("word n 2"), "ok")
        self.assertEqual(self.say("steps 1000"), "over 2 1 7")
        self.assertEqual(self.say("word m 0"), "ok")
        self.assertEqual(self.say("steps 1000"), "over 2 1 0")

    def test_words_stay_when_the_program_is_run(self):
        self.say(COUNT, "word n 3")
        for line in ("steps 1000", "boxes 1000", "beats 300", "gates 300", "ever"):
            self.say(line)
        self.assertEqual(self.say("steps 1000"), "over 3 2 1 0")

    def test_trim(self):
        self.say("program width 2 / in a / box c / c = 3 / if a / c = 1 / end / tell a", "word a 2")
        self.assertEqual(self.say("steps 3"), "going")
        self.assertEqual(self.say("boxes 9"), "over 2 1")
        self.assertEqual(self.say("trim"), "ok")
        self.assertEqual(self.say("steps 1"), "over 2")
        self.assertEqual(self.say("boxes 1"), "over 2 0")
        self.assertEqual(self.say("trim", "word a 1", "steps 1"), "over 1")

    def test_steps(self):
        self.say(COUNT, "word n 2", "word m 6")
        told = ["going", "going", "going 2", "going 2", "going 2", "going 2", "going 2 1", "going 2 1", "going 2 1",
                "going 2 1", "over 2 1 6", "over 2 1 6"]
        self.assertEqual([self.say(f"steps {steps}") for steps in range(12)], told)
        self.assertEqual(self.say("steps 1000"), told[-1])

    def test_boxes(self):
        self.say(COUNT, "word n 2", "word m 6")
        told = ["going 2 6 0", "going 2 6 0", "going 2 6 0", "going 1 6 0", "going 1 6 2"]
        self.assertEqual([self.say(f"boxes {steps}") for steps in range(5)], told)
        self.assertEqual(self.say("boxes 9"), "going 0 6 4")
        self.assertEqual(self.say("boxes 10"), "over 0 6 4")
        self.assertEqual(self.say("boxes 1000"), "over 0 6 4")

    def test_boxes_in_the_order_of_the_program(self):
        self.say("program width 4 / in z / in b / box y / box a / a = 1 / y = 2 / b = 3 / z = 4")
        self.assertEqual(self.say("boxes 4"), "over 4 3 2 1")
        self.assertEqual(self.say("boxes 3"), "going 0 3 2 1")

    def test_beats_and_gates(self):
        self.say(COUNT, "word n 2", "word m 6")
        for kind in ("beats", "gates"):
            self.assertEqual(self.say(f"{kind} 0"), "going")
            self.assertEqual(self.say(f"{kind} 300"), "over 2 1 6")
            told = [self.say(f"{kind} {beats}") for beats in range(60)]
            ended = told.index("over 2 1 6")
            self.assertEqual(told[ended:], ["over 2 1 6"] * (60 - ended))
            for answer in told[:ended]:
                self.assertIn(answer, ("going", "going 2", "going 2 1", "going 2 1 6"))
        last = [self.say(f"beats {beats}")[:4] for beats in range(60)].index("over")
        # A net's beat 0 is ahead of the table's first, and it stops in the beat behind the table's last.
        self.assertEqual(self.say(f"gates {last + 1}"), "going 2 1 6")
        self.assertEqual(self.say(f"gates {last + 2}"), "over 2 1 6")

    def test_greatest_numbers_without_end(self):
        self.say("program width 1 / in a / while a / tell 1 / end", "word a 1")
        self.assertEqual(self.say("steps 1000"), " ".join(["going"] + ["1"] * 500))
        self.assertEqual(self.say("boxes 1000"), "going 1")
        for kind in ("beats", "gates"):
            told = self.say(f"{kind} 300").split(" ")
            self.assertEqual(set(told), {"going", "1"})
            # In 73 steps 36 words are told, and no more than 296 beats are needed for them.
            self.assertGreaterEqual(len(told), 1 + 36)

    def test_ever(self):
        self.say("program width 2 / in a / tell 3 / tell 2 / while a / tell 1 / tell 0 / end / tell a")
        self.assertEqual(self.say("ever"), "over 3 2 0")
        self.assertEqual(self.say("word a 1", "ever"), "round 3 2 / 1 0")
        self.assertEqual(self.say("program width 2 / box a", "ever"), "over")
        self.assertEqual(self.say("program width 2 / box a / a = 1 / while a / end", "ever"), "round /")
        self.assertEqual(self.say("program width 2 / box a / a = 1 / while a / tell 2 / end", "ever"), "round / 2")
        self.assertEqual(self.say("program width 2 / box a / a = 1 / tell 1 / while a / end", "ever"), "round 1 /")

    def test_a_desk_whose_lines_stand_for_words(self):
        self.say("program width 2 / in word / in trim / box steps / word = word plus 1 / steps = trim / tell word",
                 "word word 2", "word trim 3")
        self.assertEqual(self.say("boxes 9"), "over 3 3 3")

    def test_two_desks_do_not_touch_one_another(self):
        other = Desk()
        self.say(COUNT, "word n 3", "units 3 3 3")
        self.assertEqual(other.say("steps 9"), "over")
        self.refused("word n 1", NoName, other)
        other.say(COUNT)
        other.say("word n 1")
        self.assertEqual(self.say("steps 1000"), "over 3 2 1 0")
        self.assertEqual(other.say("steps 1000"), "over 1 0")
        other.say("trim")
        self.assertEqual(self.say("boxes 1000"), "over 0 0 6")
        self.assertEqual(Desk().say("boxes 1"), "over")

    def test_an_argument_has_its_name_and_an_answer_is_a_text(self):
        self.assertIs(type(self.desk.say(line="trim")), str)
        self.assertIs(type(self.desk.say("steps 1")), str)


class Refusals(Said):
    def test_lines_that_are_none(self):
        self.say(COUNT)
        for line in ("", " ", "  ", "hello", "steps", "boxes", "beats", "gates", "units", "word", "Steps 1", "STEPS 1",
                     "step 1", "steps1", "trim 1", "trim now", "ever 1", "ever /", "trimmed", "/", "width 3", "tell 1",
                     "ok", "programs width 1", "1", "over", "going", "units 1 1 1 / trim"):
            self.refused(line, NoLine)

    def test_words_too_few_or_too_many(self):
        self.say(COUNT)
        for line in ("steps 1 2", "boxes 1 2", "beats 1 2", "gates 1 2", "units 1", "units 1 1", "units 1 1 1 1",
                     "word n", "word n 1 1", "word 1", "trim trim", "ever ever", "hello 1 1 1", "steps 1 1 1",
                     "unit 1 1 1", "words n 1", "steps n 1", "trim 1 1 1", "turns 1", "ever n 1"):
            self.refused(line, NoLine)

    def test_blanks(self):
        self.say(COUNT)
        for line in ("steps 1", "boxes 1", "beats 1", "gates 1", "units 1 2 3", "word n 1", "trim", "ever",
                     "program width 1 / tell 1"):
            words = line.split(" ")
            self.refused(" " + line, NoLine)
            self.refused(line + " ", NoLine)
            for place in range(1, len(words)):
                self.refused(" ".join(words[:place]) + "  " + " ".join(words[place:]), NoLine)
        self.refused("program  ", NoLine)
        self.refused("program nothing of this  is a program", NoLine)
        self.refused("program /  /", NoLine)

    def test_numbers(self):
        self.say(COUNT)
        for number in ("00", "01", "007", "-1", "+1", "1.0", "1_0", "one", "n", "0x1", "1,0", "''", "1000000000",
                       "0000000000", "1234567890", "99999999999999999999"):
            for line in ("steps N", "boxes N", "beats N", "gates N", "word n N", "units N 1 1", "units 1 N 1",
                         "units 1 1 N"):
                self.refused(line.replace("N", number), NoLine)

    def test_bounds_just_kept_and_just_passed(self):
        self.say(COUNT)
        for kind, most in (("steps", 1000), ("boxes", 1000), ("beats", 300), ("gates", 300)):
            self.assertEqual(self.say(f"{kind} {most}")[:4], "over")
            self.assertEqual(type(self.say(f"{kind} 0")), str)
            self.refused(f"{kind} {most + 1}", NoLine)
            self.refused(f"{kind} 999999999", NoLine)
        for units in ("1 1 1", "3 3 3", "1 2 3", "3 1 1"):
            self.assertEqual(self.say(f"units {units}"), "ok")
        for units in ("0 1 1", "1 0 1", "1 1 0", "4 1 1", "1 4 1", "1 1 4", "0 0 0", "999999999 1 1"):
            self.refused(f"units {units}", NoLine)

    def test_program_without_a_word_behind_it(self):
        self.say(COUNT)
        self.refused("program", NoLine)
        self.refused("program ", NoLine)

    def test_program_with_lines_that_write_none(self):
        self.say(COUNT, "word n 3")
        for lines in ("/", "/ width 1", "width 1 /", "width 1 / / tell 1", "width 9", "width 0", "width 01", "tell 1",
                      "width 1 / tell 2", "width 1 / tell a", "width 1 / in a / in a", "width 1 / if a / end",
                      "width 1 / box a / if a", "width 1 / box a / end", "width 1 tell 1", "width 1 / in A",
                      "width 1 / in abcdefg", "width 1/ tell 1", "width 1 /tell 1", "width 1 // tell 1",
                      "width 1 / box a / a = 1234567890", "width 12345678901", "steps 1", "program width 1",
                      "width 1 / in a / in b / in c / in d / in e", "width 1 / " + " / ".join(["tell 1"] * 41),
                      "width 1 / box a / " + " / ".join(["if a"] * 9 + ["end"] * 9), "units 0 0 0", "1", "ever"):
            self.refused("program " + lines, NoProgram)
        self.assertEqual(self.say("program width 1 / " + " / ".join(["tell 1"] * 40)), "ok")
        self.assertEqual(self.say("program width 1 / box a / " + " / ".join(["if a"] * 8 + ["end"] * 8)), "ok")

    def test_no_name(self):
        self.say(COUNT, "word n 3")
        for name in ("c", "x", "N", "nn", "word", "/", "=", "1", "0", "n!", "toolongname", "~"):
            self.refused(f"word {name} 1", NoName)

    def test_too_great(self):
        for width in range(1, 9):
            self.assertEqual(self.say(f"program width {width} / in n / tell n"), "ok")
            self.assertEqual(self.say(f"word n {2 ** width - 1}"), "ok")
            self.refused(f"word n {2 ** width}", TooGreat)
            self.refused("word n 999999999", TooGreat)
            self.assertEqual(self.say("steps 1"), f"over {2 ** width - 1}")

    def test_the_order_of_refusals(self):
        self.say(COUNT)
        self.refused("word x 08", NoLine)
        self.refused("word x 1234567890", NoLine)
        self.refused("word x", NoLine)
        self.refused("word n 1234567890", NoLine)
        self.refused("word n 08", NoLine)
        self.refused("word x 8", NoName)
        self.refused("word c 999999999", NoName)
        self.refused("word n 8", TooGreat)
        self.say(LONG, "word n 200")
        self.refused("ever ", NoLine)
        self.refused("ever", TooLong)

    def test_too_long(self):
        ahead = "program width 8 / in n / in m"
        loops = " / while n / n = n less 1 / end / while m / m = m less 1 / end"
        self.say(ahead + loops, "word n 255", "word m 244")
        self.assertEqual(self.say("ever"), "over")
        self.say(ahead + " / tell 1" + loops, "word n 255", "word m 244")
        self.refused("ever", TooLong)
        self.say("word m 243")
        self.assertEqual(self.say("ever"), "over 1")

    def test_a_refused_line_is_taken_when_it_is_due(self):
        self.refused("word n 7", NoName)
        self.say("program width 2 / in n / tell n")
        self.refused("word n 7", TooGreat)
        self.say("program width 3 / in n / tell n")
        self.assertEqual(self.say("word n 7"), "ok")
        self.assertEqual(self.say("steps 1"), "over 7")
        self.say(LONG, "word n 200")
        self.refused("ever", TooLong)
        self.assertEqual(self.say("word n 2", "ever"), "over")

    def test_a_refused_program_keeps_the_old_one_and_its_words(self):
        self.say(COUNT, "word n 3", "word m 5", "units 2 2 2")
        self.refused("program width 3 / in q / tell q / tell", NoProgram)
        self.assertEqual(self.say("boxes 0"), "going 3 5 0")
        self.refused("word q 1", NoName)

    def test_each_refusal_is_of_its_own_class(self):
        self.say(LONG, "word n 200")
        kinds = {"": NoLine, "program /": NoProgram, "word q 1": NoName, "word n 256": TooGreat, "ever": TooLong}
        for line, kind in kinds.items():
            with self.assertRaises(kind) as taken:
                self.say(line)
            self.assertEqual([name for name in ("NoLine", "NoProgram", "NoName", "TooGreat", "TooLong")
                              if isinstance(taken.exception, getattr(errors, name))], [kind.__name__])

    def test_a_long_line(self):
        # Forty statements of the longest words: the longest lines that a desk can take.
        names = ["abcdef", "bcdefg", "cdefgh", "defghi", "efghij", "fghijk", "ghijkl", "hijklm"]
        lines = ["width 8"] + [f"in {name}" for name in names[:4]] + [f"box {name}" for name in names[4:]]
        lines += ["abcdef = bcdefg below cdefgh"] * 40
        self.assertEqual(self.say("program " + " / ".join(lines)), "ok")
        self.assertEqual(self.say("boxes 40"), "over 0 0 0 0 0 0 0 0")
        self.refused("program " + " / ".join(lines + ["tell 1"]), NoProgram)
        self.refused("steps " + "1" * 2900, NoLine)
        self.refused("word abcdef " + "1" * 2900, NoLine)
        self.refused("z" * 3000, NoLine)
        self.refused(" " * 3000, NoLine)


class Sessions(Said):
    def told_by(self, kind, words):
        return " ".join([kind] + [str(word) for word in words])

    def test_many_programs(self):
        chance = random.Random(141)
        for program, words in lively_programs(141, 60):
            self.assertEqual(self.say("program " + " / ".join(shown(program))), "ok")
            for name, word in words.items():
                self.assertEqual(self.say(f"word {name} {word}"), "ok")
            self.say("units " + " ".join(str(chance.randint(1, 3)) for unit in range(3)))
            if chance.random() < 0.3:
                self.assertEqual(self.say("trim"), "ok")
                program = trimmed(read(shown(program)))
            trace = traced(program, words, 1000)
            for most in (0, 1, 5, 50, 1000):
                told, boxes, over = trace.at(most)
                kind = "over" if over else "going"
                self.assertEqual(self.say(f"steps {most}"), self.told_by(kind, told))
                self.assertEqual(self.say(f"boxes {most}"), self.told_by(kind, [boxes[name] for name in program.boxes]))
            if trace.over_at is not None:
                self.assertEqual(self.say("ever"), self.told_by("over", trace.all_told))
            if trace.over_at is not None and trace.over_at <= 70:
                self.assertEqual(self.say("beats 300"), self.told_by("over", trace.all_told))
                self.assertEqual(self.say("gates 300"), self.told_by("over", trace.all_told))
            elif trace.over_at is None:
                told = trace.told_behind(70)
                for kind in ("beats", "gates"):
                    self.assertEqual(self.say(f"{kind} 300").split(" ")[:1 + len(told)],
                                     self.told_by("going", told).split(" "))


if __name__ == "__main__":
    unittest.main()
