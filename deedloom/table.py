"""Tables of beats: made of a program, and run."""

from deedloom.blocks import blocks_of
from deedloom.deeds import box_written, word_made
from deedloom.endings import led_anew, place_led_to
from deedloom.laying import laid
from deedloom.plain import first_boxes


def table_of(program, units):
    """The states that do, from state 0 on, what the program does."""
    blocks = blocks_of(program)
    laid_blocks = [beats_of(block, units) for block in blocks]
    firsts = []
    many = 0
    for beats in laid_blocks:
        firsts.append(many)
        many = many + len(beats)
    table = []
    for block, beats in zip(blocks, laid_blocks):
        for deeds in beats[:-1]:
            table.append((deeds, ("go", len(table) + 1)))
        table.append((beats[-1], led_anew(block[1], firsts)))
    return table


def beats_of(block, units):
    """The block's deeds, beat by beat; its ending can go with the last beat."""
    deeds = block[0]
    ending = block[1]
    beats = [[deeds[place] for place in beat] for beat in laid(deeds, units)]
    if beats == [] or (ending[0] == "choose" and writes(beats[-1], ending[1])):
        # A beat's ending looks at boxes as they are at its begin, so what is written must be a beat old.
        beats.append([])
    return beats


def writes(deeds, name):
    return any([box_written(deed) == name for deed in deeds])


class TableRun:
    """A run of a table: its state, the boxes, and the words told so far; place is None where it came to stop."""

    def __init__(self, program, table, words):
        self.width = program.width
        self.table = table
        self.boxes = first_boxes(program, words)
        self.told = []
        self.place = 0

    def go_beat(self):
        state = self.table[self.place]
        after = dict(self.boxes)
        for deed in state[0]:
            word = word_made(deed, self.boxes, self.width)
            name = box_written(deed)
            if name is None:
                self.told.append(word)
            else:
                after[name] = word
        self.place = place_led_to(state[1], self.boxes)
        self.boxes = after


def run_table(program, table, words, most):
    """The told words, all boxes' words, and whether a beat led to stop, behind at most so many beats."""
    going = TableRun(program, table, words)
    beats = 0
    while beats < most and going.place is not None:
        going.go_beat()
        beats = beats + 1
    return (going.told, going.boxes, going.place is None)
