"""Programs run the plain way, step by step."""

from deedloom.deeds import box_written, word_made


def first_boxes(program, words):
    """All boxes' words ahead of any step: the inputs' as handed in, the others' 0."""
    boxes = {}
    for name in program.boxes:
        boxes[name] = words[name] if name in program.ins else 0
    return boxes


class Run:
    """A run of a program: the statements still to be done, the boxes, and the words told so far."""

    def __init__(self, program, words):
        self.width = program.width
        # The statement that is due stands last, where it is taken off without moving the others.
        self.left = list(reversed(program.rows))
        self.boxes = first_boxes(program, words)
        self.told = []

    def is_over(self):
        return self.left == []

    def go_step(self):
        row = self.left.pop()
        if row[0] == "if":
            self.put_ahead(row[2] if self.boxes[row[1]] != 0 else row[3])
        elif row[0] == "while":
            self.look_at_while(row)
        else:
            self.do_deed(row)

    def look_at_while(self, row):
        if self.boxes[row[1]] != 0:
            self.left.append(row)
            self.put_ahead(row[2])

    def do_deed(self, deed):
        word = word_made(deed, self.boxes, self.width)
        name = box_written(deed)
        if name is None:
            self.told.append(word)
        else:
            self.boxes[name] = word

    def put_ahead(self, rows):
        self.left.extend(list(reversed(rows)))


def run(program, words, most):
    """The told words, all boxes' words, and whether it is over, behind at most so many steps."""
    going = Run(program, words)
    steps = 0
    while steps < most and not going.is_over():
        going.go_step()
        steps = steps + 1
    return (going.told, going.boxes, going.is_over())
