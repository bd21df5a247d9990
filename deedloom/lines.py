"""The lines that a desk is told, and what they ask for."""

from deedloom.errors import NoLine
from deedloom.text import is_number

MOST_FIGURES = 9
GREATEST_NUMBER = 999999999
MOST_UNITS = 3
MOST_TURNS = {"steps": 1000, "boxes": 1000, "beats": 300, "gates": 300}


def asked_by(line):
    """A tuple of the line's first word and what stands behind it, numbers as numbers; NoLine where it is no line."""
    # Parted at each blank, a blank too many leaves an empty word.
    words = line.split(" ")
    if "" in words:
        raise NoLine("an empty line, or a blank too many")
    if words[0] == "program" and len(words) > 1:
        return ("program", program_lines(words[1:]))
    if words[0] == "units" and len(words) == 4:
        return ("units", tuple([number_in(word, 1, MOST_UNITS) for word in words[1:]]))
    if words[0] == "word" and len(words) == 3:
        return ("word", words[1], number_in(words[2], 0, GREATEST_NUMBER))
    if words[0] in MOST_TURNS and len(words) == 2:
        return (words[0], number_in(words[1], 0, MOST_TURNS[words[0]]))
    if words == ["trim"] or words == ["ever"]:
        return (words[0],)
    raise NoLine(f"no line: {line!r}")


def program_lines(words):
    """The lines between the words /."""
    lines = [[]]
    for word in words:
        if word == "/":
            lines.append([])
        else:
            lines[-1].append(word)
    return [" ".join(line) for line in lines]


def number_in(word, least, most):
    if not is_number(word) or len(word) > MOST_FIGURES or not least <= int(word) <= most:
        raise NoLine(f"no number that can stand here: {word!r}")
    return int(word)
