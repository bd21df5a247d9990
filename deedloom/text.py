"""Programs written as lines, and lines read as programs."""

from deedloom.errors import NoProgram
from deedloom.program import OPS, Program, word_count

LETTERS = "abcdefghijklmnopqrstuvwxyz"
FIGURES = "0123456789"
LONGEST_NAME = 6
GREATEST_WIDTH = 8
MOST_INS = 4
MOST_BOXES = 8
MOST_STATEMENTS = 40
MOST_DEEP = 8


def shown(program):
    """The lines that write the program."""
    lines = ["width " + str(program.width)]
    lines.extend(["in " + name for name in program.ins])
    lines.extend(["box " + name for name in program.boxes[len(program.ins):]])
    return lines + lines_of(program.rows)


def lines_of(rows):
    lines = []
    for row in rows:
        lines.extend(row_lines(row))
    return lines


def row_lines(row):
    if row[0] == "if":
        others = ["else"] + lines_of(row[3]) if row[3] else []
        return ["if " + row[1]] + lines_of(row[2]) + others + ["end"]
    if row[0] == "while":
        return ["while " + row[1]] + lines_of(row[2]) + ["end"]
    return [deed_line(row)]


def deed_line(deed):
    texts = [str(part) for part in deed]
    if deed[0] == "tell":
        return " ".join(texts)
    if deed[0] == "copy":
        return " ".join([texts[1], "=", texts[2]])
    return " ".join([texts[1], "=", texts[2], texts[0], texts[3]])


def read(lines):
    """The program that the lines write; NoProgram where they write none."""
    # Parted at each blank, a blank too many leaves an empty word, which is nowhere allowed.
    parted = [line.split(" ") for line in lines]
    width = read_width(parted)
    ins = names_behind("in", parted, 1)
    others = names_behind("box", parted, 1 + len(ins))
    names = ins + others
    judge_names(ins, names)
    rows = RowReader(parted[1 + len(names):], width, names).all_rows()
    return Program(width, ins, others, rows)


def read_width(parted):
    if not parted or len(parted[0]) != 2 or parted[0][0] != "width":
        raise NoProgram("the first line tells no width")
    text = parted[0][1]
    if not is_number(text) or not 1 <= int(text) <= GREATEST_WIDTH:
        raise NoProgram(f"no width: {text!r}")
    return int(text)


def names_behind(word, parted, start):
    """The names in the lines from start on, as long as the lines are the word and a name."""
    names = []
    for words in parted[start:]:
        if len(words) != 2 or words[0] != word or not is_name(words[1]):
            break
        names.append(words[1])
    return names


def judge_names(ins, names):
    if len(ins) > MOST_INS:
        raise NoProgram("too many inputs")
    if len(names) > MOST_BOXES:
        raise NoProgram("too many boxes")
    if len(set(names)) != len(names):
        raise NoProgram("a name is told twice among the boxes")


def is_name(word):
    return 1 <= len(word) <= LONGEST_NAME and all([sign in LETTERS for sign in word])


def is_number(word):
    """Whether the word is a number by figures, without a nought ahead of others."""
    if word == "" or not all([sign in FIGURES for sign in word]):
        return False
    return word == "0" or word[0] != "0"


class RowReader:
    """Reads statements from lines that are parted into words, one line behind the other."""

    def __init__(self, parted, width, names):
        self.parted = parted
        self.words_many = word_count(width)
        self.names = names
        self.place = 0
        self.statements_many = 0

    def all_rows(self):
        rows = self.rows_within(0)
        if self.line_ahead() != []:
            raise NoProgram("an end or else without its beginning")
        return rows

    def line_ahead(self):
        """The words of the next line; none where no line is left (each line has some word)."""
        return self.parted[self.place] if self.place < len(self.parted) else []

    def rows_within(self, depth):
        """The statements up to an else or end, or to the last line."""
        rows = []
        while self.line_ahead() not in ([], ["else"], ["end"]):
            rows.append(self.next_row(depth))
        return rows

    def next_row(self, depth):
        words = self.line_ahead()
        self.place = self.place + 1
        self.statements_many = self.statements_many + 1
        if self.statements_many > MOST_STATEMENTS:
            raise NoProgram("too many statements")
        # The = is looked for first, since a box may be called tell, if or while.
        if len(words) > 1 and words[1] == "=":
            return self.assignment(words)
        if len(words) == 2 and words[0] == "tell":
            return ("tell", self.operand(words[1]))
        if len(words) == 2 and words[0] == "if":
            return self.if_row(self.box_name(words[1]), depth + 1)
        if len(words) == 2 and words[0] == "while":
            return self.while_row(self.box_name(words[1]), depth + 1)
        raise NoProgram(f"no statement: {words!r}")

    def assignment(self, words):
        name = self.box_name(words[0])
        if len(words) == 3:
            return ("copy", name, self.operand(words[2]))
        if len(words) == 5 and words[3] in OPS:
            return (words[3], name, self.operand(words[2]), self.operand(words[4]))
        raise NoProgram(f"no assignment: {words!r}")

    def if_row(self, name, depth):
        ones = self.deeper_rows(depth)
        others = []
        if self.line_ahead() == ["else"]:
            self.place = self.place + 1
            others = self.deeper_rows(depth)
        self.pass_end()
        return ("if", name, ones, others)

    def while_row(self, name, depth):
        rows = self.deeper_rows(depth)
        self.pass_end()
        return ("while", name, rows)

    def deeper_rows(self, depth):
        if depth > MOST_DEEP:
            raise NoProgram("too deep")
        return self.rows_within(depth)

    def pass_end(self):
        if self.line_ahead() != ["end"]:
            raise NoProgram("an if or while without its end")
        self.place = self.place + 1

    def operand(self, word):
        if not is_number(word):
            return self.box_name(word)
        if int(word) >= self.words_many:
            raise NoProgram(f"no word: {word!r}")
        return int(word)

    def box_name(self, word):
        if word not in self.names:
            raise NoProgram(f"no box: {word!r}")
        return word
