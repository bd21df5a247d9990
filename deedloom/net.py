"""Nets: a program's table made into rows of gates, and nets run."""

from deedloom.deeds import box_written
from deedloom.gates import wires_told
from deedloom.sheet import Sheet
from deedloom.wordgates import wires_chosen, wires_made


class Net:
    """Rows of gates, and the wires that tell boxes, told words and the end."""

    def __init__(self, rows, boxes, tell, said, stop):
        self.rows = rows
        self.boxes = boxes
        self.tell = tell
        self.said = said
        self.stop = stop


def net_of(program, table, coded=False):
    """The net of the program's table; where coded, its latches hold the number of the state."""
    sheet = Sheet()
    boxes = {}
    for name in program.boxes:
        boxes[name] = [sheet.latch() for bit in range(program.width)]
    # A mark tells 1 in its beats alone: first that of beat 0, then one for each state, last that of the end.
    many = len(table) + 2
    latches = [sheet.latch() for k in range(bits_needed(many) if coded else many)]
    marks = coded_marks(sheet, latches, many) if coded else lone_marks(sheet, latches)
    coming = marks_coming(sheet, table, boxes, marks)
    leads = coded_leads(sheet, coming, len(latches)) if coded else lone_leads(sheet, coming)
    for latch, wire in zip(latches, leads):
        sheet.lead(latch, wire)
    for name in program.boxes:
        lead_box(sheet, program, name, boxes, write_choices(sheet, program, table, boxes, marks, name))
    tells = write_choices(sheet, program, table, boxes, marks, None)
    tell = sheet.any_of([mark for mark, word in tells])
    return Net(sheet.rows, boxes, tell, wires_chosen(sheet, tells, program.width), marks[-1])


def bits_needed(many):
    """The least number of bits that so many numbers from 0 on can be written with."""
    return (many - 1).bit_length()


def lone_marks(sheet, latches):
    """A latch for each mark; the first one tells whether beat 0 is past, so its mark is the inverse."""
    return [sheet.inverse(latches[0])] + latches[1:]


def lone_leads(sheet, coming):
    return [sheet.fixed(1)] + coming[1:]


def coded_marks(sheet, latches, many):
    """Marks by their numbers in bits; all latches tell 0 at beat 0, so the first mark is that of beat 0 by itself."""
    marks = []
    for number in range(many):
        mark = sheet.fixed(1)
        for bit, latch in enumerate(latches):
            mark = sheet.both(mark, latch if has_bit(number, bit) else sheet.inverse(latch))
        marks.append(mark)
    return marks


def coded_leads(sheet, coming, bits):
    leads = []
    for bit in range(bits):
        leads.append(sheet.any_of([wire for number, wire in enumerate(coming) if has_bit(number, bit)]))
    return leads


def has_bit(number, bit):
    return (number >> bit) & 1 == 1


def marks_coming(sheet, table, boxes, marks):
    """For each mark the wire that tells whether it is the next beat's."""
    ways = [[] for mark in marks]
    ways[1].append(marks[0])
    ways[-1].append(marks[-1])
    for state, mark in zip(table, marks[1:]):
        ending = state[1]
        if ending[0] == "go":
            ways[ending[1] + 1].append(mark)
        elif ending[0] == "choose":
            filled = sheet.any_of(boxes[ending[1]])
            ways[ending[2] + 1].append(sheet.both(mark, filled))
            ways[ending[3] + 1].append(sheet.both(mark, sheet.inverse(filled)))
        else:
            ways[-1].append(mark)
    return [sheet.any_of(wires) for wires in ways]


def write_choices(sheet, program, table, boxes, marks, name):
    """For each deed that writes the box, or tells where name is None, its state's mark and its word's wires."""
    choices = []
    for state, mark in zip(table, marks[1:]):
        for deed in state[0]:
            if box_written(deed) == name:
                choices.append((mark, wires_made(sheet, deed, boxes, program.width)))
    if name in program.ins:
        choices.append((marks[0], [sheet.taken_in(name, bit) for bit in range(program.width)]))
    return choices


def lead_box(sheet, program, name, boxes, choices):
    """Leads the box's latches: to a word that is written, else to what they tell."""
    held = sheet.inverse(sheet.any_of([mark for mark, word in choices]))
    wires = wires_chosen(sheet, choices + [(held, boxes[name])], program.width)
    for latch, wire in zip(boxes[name], wires):
        sheet.lead(latch, wire)


def run_net(net, words, beats):
    """The told words, all boxes' words at the last beat, and whether STOP was 1 then."""
    told = []
    last = [0 for row in net.rows]
    for bits in wires_told(net.rows, words, beats):
        if bits[net.tell] == 1:
            told.append(word_on(net.said, bits))
        last = bits
    boxes = {}
    for name in net.boxes:
        boxes[name] = word_on(net.boxes[name], last)
    return (told, boxes, last[net.stop] == 1)


def word_on(wires, bits):
    word = 0
    for wire in reversed(wires):
        word = word * 2 + bits[wire]
    return word
