import random
import unittest

from deedloom.errors import NoProgram
from deedloom.program import Program
from deedloom.text import read, shown
from tests.made import program_of

HEAD = ["width 4", "in a", "in b", "box c", "box d"]


def without_idle_elses(lines):
    return [line for line, behind in zip(lines, lines[1:] + [""]) if (line, behind) != ("else", "end")]


def nest(depth, kinds=("if", "while")):
    """Lines of so many ifs and whiles within one another, and a deed in the innermost."""
    opened = [f"{kinds[k % len(kinds)]} a" for k in range(depth)]
    return opened + ["tell a"] + ["end"] * depth


class Judged(unittest.TestCase):
    def refused(self, lines):
        kept = list(lines)
        with self.assertRaises(NoProgram, msg=repr(lines)) as taken:
            read(lines)
        self.assertIs(type(taken.exception), NoProgram)
        self.assertEqual(lines, kept)

    def taken(self, lines):
        kept = list(lines)
        program = read(lines)
        self.assertIs(type(program), Program)
        self.assertEqual(lines, kept)
        self.assertEqual(shown(program), without_idle_elses(kept))
        return program


class WhatIsRead(Judged):
    def rows(self, lines, rows):
        self.assertEqual(self.taken(HEAD + lines).rows, rows)

    def test_numbers_are_read_as_whole_numbers(self):
        self.rows(["c = 7", "tell 0", "d = 3 plus 15"], [("copy", "c", 7), ("tell", 0), ("plus", "d", 3, 15)])
        self.assertIs(type(read(HEAD).width), int)
        self.assertEqual(read(HEAD).width, 4)

    def test_fields(self):
        program = self.taken(HEAD)
        self.assertEqual((program.ins, program.boxes, program.rows), (["a", "b"], ["a", "b", "c", "d"], []))

    def test_else_with_nothing_behind_it(self):
        self.rows(["if a", "tell 1", "else", "end"], [("if", "a", [("tell", 1)], [])])
        self.rows(["if a", "else", "end"], [("if", "a", [], [])])

    def test_else_with_nothing_behind_it_within_others(self):
        self.rows(["if a", "if b", "tell 1", "else", "end", "else", "tell 2", "end"],
                  [("if", "a", [("if", "b", [("tell", 1)], [])], [("tell", 2)])])
        self.rows(["if a", "if b", "tell 1", "else", "tell 2", "end", "else", "end", "tell 3"],
                  [("if", "a", [("if", "b", [("tell", 1)], [("tell", 2)])], []), ("tell", 3)])
        self.rows(["if a", "else", "if b", "else", "end", "tell 1", "end"],
                  [("if", "a", [], [("if", "b", [], []), ("tell", 1)])])
        self.rows(["if a", "else", "if b", "else", "end", "end"],
                  [("if", "a", [], [("if", "b", [], [])])])
        self.rows(["if a", "if b", "else", "end", "else", "end"],
                  [("if", "a", [("if", "b", [], [])], [])])
        self.rows(["while a", "if b", "tell 1", "else", "end", "tell 2", "end"],
                  [("while", "a", [("if", "b", [("tell", 1)], []), ("tell", 2)])])

    def test_an_idle_else_is_not_shown_again(self):
        program = read(HEAD + ["if a", "if b", "else", "end", "else", "tell 2", "end"])
        self.assertEqual(shown(program), HEAD + ["if a", "if b", "end", "else", "tell 2", "end"])

    def test_names_that_are_words_of_the_lines(self):
        program = self.taken(["width 1", "in in", "in box", "box ina", "box width", "in = box", "box = width",
                              "width = 1", "tell in"])
        self.assertEqual(program.rows, [("copy", "in", "box"), ("copy", "box", "width"), ("copy", "width", 1),
                                        ("tell", "in")])

    def test_an_argument_has_its_name(self):
        self.assertEqual(read(lines=["width 3"]).width, 3)
        self.assertEqual(shown(program=read(["width 3"])), ["width 3"])


class Bounds(Judged):
    def test_inputs(self):
        self.taken(["width 1"] + [f"in {name}" for name in "abcd"])
        self.taken(["width 1"] + [f"in {name}" for name in "abcd"] + [f"box {name}" for name in "efgh"])
        self.refused(["width 1"] + [f"in {name}" for name in "abcde"])

    def test_boxes(self):
        self.taken(["width 1"] + [f"box {name}" for name in "abcdefgh"])
        self.refused(["width 1"] + [f"box {name}" for name in "abcdefghi"])
        self.refused(["width 1"] + [f"in {name}" for name in "abcd"] + [f"box {name}" for name in "efghi"])
        self.refused(["width 1", "in a"] + [f"box {name}" for name in "bcdefghi"])

    def test_statements(self):
        self.taken(HEAD + ["tell a"] * 40)
        self.refused(HEAD + ["tell a"] * 41)
        self.taken(HEAD + ["c = a plus b"] * 39 + ["c = 1"])
        self.refused(HEAD + ["c = a plus b"] * 39 + ["c = 1", "tell c"])

    def test_ifs_and_whiles_are_counted_as_statements(self):
        self.taken(HEAD + ["if a", "else", "end"] * 40)
        self.refused(HEAD + ["if a", "else", "end"] * 40 + ["tell a"])
        self.refused(HEAD + ["if a", "else", "end"] * 41)
        self.taken(HEAD + ["while a", "end"] * 40)
        self.refused(HEAD + ["while a", "end"] * 41)

    def test_statements_at_every_depth_are_counted(self):
        self.taken(HEAD + ["if a"] + ["tell a"] * 19 + ["else"] + ["tell b"] * 20 + ["end"])
        self.refused(HEAD + ["if a"] + ["tell a"] * 20 + ["else"] + ["tell b"] * 20 + ["end"])
        self.taken(HEAD + ["while a"] + ["tell a"] * 38 + ["end", "tell b"])
        self.refused(HEAD + ["while a"] + ["tell a"] * 39 + ["end", "tell b"])

    def test_depth(self):
        for kinds in (("if",), ("while",), ("if", "while"), ("while", "if")):
            self.taken(HEAD + nest(8, kinds))
            self.refused(HEAD + nest(9, kinds))
            self.refused(HEAD + nest(9, kinds)[:9] + nest(9, kinds)[10:])

    def test_depth_within_else(self):
        def nested(depth):
            return ["if a", "else"] * depth + ["tell a"] + ["end"] * depth
        self.taken(HEAD + nested(8))
        self.refused(HEAD + nested(9))

    def test_depth_is_not_how_many_there_are(self):
        self.taken(HEAD + nest(8) + nest(8) + nest(8))
        self.taken(HEAD + ["if a"] + nest(7) + nest(7) + ["else"] + nest(7) + ["end"])
        self.refused(HEAD + nest(8) + nest(9))
        self.refused(HEAD + ["if a"] + nest(7) + ["else"] + nest(8) + ["end"])

    def test_many_ifs_without_end(self):
        self.refused(HEAD + ["if a"] * 195)
        self.refused(HEAD + ["while a"] * 97 + ["end"] * 97)

    def test_width(self):
        for width in range(1, 9):
            self.assertEqual(self.taken([f"width {width}"]).width, width)
        for width in ("0", "9", "10", "16", "999999999", "-1"):
            self.refused([f"width {width}"])

    def test_numbers_are_words(self):
        for width in range(1, 9):
            head = [f"width {width}", "box a"]
            for form in ("a = N", "tell N", "a = N plus a", "a = a plus N"):
                self.taken(head + [form.replace("N", "0")])
                self.taken(head + [form.replace("N", str(2 ** width - 1))])
                self.refused(head + [form.replace("N", str(2 ** width))])
                self.refused(head + [form.replace("N", "999999999")])

    def test_names(self):
        self.taken(["width 1", "in a", "in zzzzzz", "box abcdef"])
        for name in ("", "abcdefg", "A", "aB", "a1", "1", "_", "a_b", "=", "a-b", "*"):
            self.refused(["width 1", f"box {name}"])
            self.refused(["width 1", f"in {name}"])


class Refused(Judged):
    def wrong(self, *lines):
        self.refused(HEAD + list(lines))

    def test_no_lines(self):
        self.refused([])

    def test_first_line(self):
        for line in ("", "width", "width x", "width =", "width 1 1", "Width 1", "wide 1", "1", "in a", "box a", "end",
                     "width 1.0", "width +1", "width one"):
            self.refused([line])
            self.refused([line, "in a", "box b"])
        self.refused(["in a", "width 1"])
        self.refused(["in width", "width = 1"])

    def test_width_told_again(self):
        self.refused(["width 1", "width 1"])
        self.wrong("width 4")

    def test_blanks(self):
        good = ["width 4", "in a", "box c", "c = a", "c = a plus 1", "tell c", "if c", "else", "end", "while c", "end"]
        self.taken(good)
        for place, line in enumerate(good):
            words = line.split(" ")
            spoiled = [" " + line, line + " ", "  ".join(words) if len(words) > 1 else " "]
            for k in range(1, len(words)):
                spoiled.append(" ".join(words[:k]) + "  " + " ".join(words[k:]))
            for text in spoiled:
                self.refused(good[:place] + [text] + good[place + 1:])

    def test_empty_lines(self):
        for place in range(len(HEAD) + 1):
            for line in ("", " ", "  "):
                self.refused(HEAD[:place] + [line] + HEAD[place:])

    def test_words_run_together(self):
        for line in ("c=a", "c =a", "c= a", "tella", "c = aplus b", "ifa"):
            self.wrong(line)

    def test_nought_ahead(self):
        self.refused(["width 01"])
        self.refused(["width 04", "in a"])
        for number in ("00", "01", "07", "000", "015"):
            for form in ("c = N", "tell N", "c = N plus a", "c = a plus N"):
                self.wrong(form.replace("N", number))

    def test_numbers_not_by_figures(self):
        for number in ("-1", "+1", "1.0", "0x1", "1e0", "1_0", "~", "''"):
            self.wrong(f"c = {number}")
            self.wrong(f"tell {number}")

    def test_a_name_told_twice(self):
        self.refused(["width 1", "in a", "in a"])
        self.refused(["width 1", "in a", "in b", "in a"])
        self.refused(["width 1", "box a", "box a"])
        self.refused(["width 1", "in a", "box a"])
        self.refused(["width 1", "in a", "box b", "box c", "box a"])

    def test_a_name_that_is_no_box(self):
        for line in ("x = a", "a = x", "x = 1", "a = x plus b", "a = b plus x", "x = a plus b", "tell x", "a = A"):
            self.wrong(line)
        for kind in ("if", "while"):
            self.wrong(f"{kind} x", "end")
            self.wrong(f"{kind} x", "tell a", "end")

    def test_a_number_where_a_box_must_stand(self):
        for line in ("1 = a", "0 = 0", "1 = a plus b"):
            self.wrong(line)
        for kind in ("if", "while"):
            self.wrong(f"{kind} 1", "end")
            self.wrong(f"{kind} 0", "end")

    def test_in_or_box_late(self):
        self.refused(["width 1", "box a", "in b"])
        self.refused(["width 1", "in a", "box b", "in c"])
        self.refused(["width 1", "in a", "tell a", "in b"])
        self.refused(["width 1", "in a", "tell a", "box b"])
        self.refused(["width 1", "in a", "if a", "box b", "end"])
        self.refused(["width 1", "in a", "while a", "end", "box b"])

    def test_in_or_box_without_just_one_name(self):
        for line in ("in", "box", "in e f", "box e f", "in e = 1", "box =", "in ="):
            self.refused(["width 1", line])
            self.wrong(line)

    def test_if_or_while_without_end(self):
        self.wrong("if a")
        self.wrong("while a")
        self.wrong("if a", "tell 1")
        self.wrong("if a", "else")
        self.wrong("if a", "else", "tell 1")
        self.wrong("while a", "tell 1")
        self.wrong("if a", "while b", "end")
        self.wrong("while a", "if b", "else", "end")

    def test_end_or_else_without_beginning(self):
        self.refused(["width 1", "end"])
        self.refused(["width 1", "else"])
        self.wrong("end")
        self.wrong("else")
        self.wrong("else", "end")
        self.wrong("tell a", "end")
        self.wrong("if a", "end", "end")
        self.wrong("if a", "end", "else", "end")
        self.wrong("while a", "end", "end", "tell a")
        self.wrong("end", "if a")

    def test_else_where_none_can_stand(self):
        self.wrong("while a", "else", "end")
        self.wrong("while a", "tell 1", "else", "tell 2", "end")
        self.wrong("if a", "while b", "else", "end", "end")
        self.wrong("if a", "else", "else", "end")
        self.wrong("if a", "tell 1", "else", "tell 2", "else", "tell 3", "end")
        self.wrong("if a", "else", "while b", "else", "end", "end")

    def test_assignments_of_another_form(self):
        for line in ("c =", "c = a plus", "c = plus a", "c = a b", "c = a plus b c", "c = a copy b", "c = a times b",
                     "c = a = b", "c = = a", "c = copy a", "= a", "= =", "c = a PLUS b", "c = a 1 b", "c = a plus b plus d",
                     "a b = c", "c == a", "tell = a", "if = 1", "end = 1", "c = a plus =", "c = ="):
            self.wrong(line)

    def test_a_second_word_of_equal_is_an_assignment(self):
        # tell, if and while are boxes here, but what stands behind = is no operand.
        head = ["width 1", "box tell", "box if", "box while", "box end"]
        self.taken(head + ["tell = 1", "if = 1", "while = 1", "end = 1"])
        for line in ("tell =", "if =", "while =", "end ="):
            self.refused(head + [line])
            self.refused(head + [line, "end"])

    def test_lines_of_another_form(self):
        for line in ("tell", "tell a b", "tell 1 2", "a", "1", "=", "say a", "Tell a", "end a", "else a", "copy c a",
                     "plus c a b", "a c = b", "#", "tell a;", "~", "()", "nothing at all", "/", "tell a / tell b"):
            self.wrong(line)
        for kind in ("if", "while"):
            self.wrong(kind, "end")
            self.wrong(f"{kind} a b", "end")
            self.wrong(f"{kind.upper()} a", "end")
        self.wrong("if a", "else b", "end")
        self.wrong("if a", "end a")
        self.wrong("if a", "END")
        self.wrong("if a", "else if b", "end")

    def test_one_wrong_line_anywhere_is_enough(self):
        good = HEAD + ["c = a", "if a", "tell 1", "else", "while b", "b = b less 1", "end", "end"]
        self.taken(good)
        for place in range(len(good) + 1):
            self.refused(good[:place] + ["wrong a"] + good[place:])
        self.refused(["tell 1"] + good)


class Spoiled(Judged):
    """Whatever is read was written so, but for an else with nothing behind it; all else is NoProgram."""

    PIECES = ("", " ", "=", "a", "z", "end", "else", "if", "while", "tell", "in", "box", "width", "plus", "below",
              "0", "1", "7", "00", "01", "256", "/", "if a", "tell 1", "a = 1", "in a", "box z")

    def spoil(self, chance, lines):
        place = chance.randrange(len(lines))
        words = lines[place].split(" ")
        k = chance.randrange(len(words))
        turn = chance.randrange(6)
        if turn == 0:
            lines.insert(place, chance.choice(lines + list(self.PIECES)))
        elif turn == 1:
            lines.pop(place)
        elif turn == 2:
            other = chance.randrange(len(lines))
            lines[place], lines[other] = lines[other], lines[place]
        elif turn == 3:
            words[k] = chance.choice(self.PIECES)
        elif turn == 4:
            words.insert(k, chance.choice(self.PIECES))
        else:
            words.pop(k)
        if turn > 2:
            lines[place] = " ".join(words)

    def test_spoiled_programs(self):
        chance = random.Random(11)
        outcomes = {"read": 0, "refused": 0}
        for turn in range(4000):
            lines = shown(program_of(chance))
            for spoiling in range(chance.randint(1, 2)):
                if lines:
                    self.spoil(chance, lines)
            try:
                self.taken(lines)
                outcomes["read"] += 1
            except NoProgram:
                self.refused(lines)
                outcomes["refused"] += 1
        self.assertGreater(min(outcomes.values()), 300)


if __name__ == "__main__":
    unittest.main()
