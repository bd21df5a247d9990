"""Programs for the tests, made by a seed, and what the document asks of them, found another way than the program does."""

import copy
import random

from deedloom.net import net_of
from deedloom.program import Program
from deedloom.table import table_of

OPS = ("plus", "less", "and", "or", "xor", "below", "same")
SORTS = (("plus", "less"), ("below", "same"), ("and", "or", "xor"))
ALL_UNITS = [(a, b, c) for a in (1, 2, 3) for b in (1, 2, 3) for c in (1, 2, 3)]
# Names that are words of the lines too, among plain ones.
NAMES = ("width", "in", "box", "tell", "if", "else", "while", "end", "plus", "less", "and", "or", "xor",
         "below", "same", "copy", "a", "z", "abcdef")


def program_of(chance, most=40, most_names=8, ending=0.0, width=None):
    """Some program within the bounds, by a random.Random; so many of its whiles count their box down."""
    width = width or chance.randint(1, 8)
    names = chance.sample(NAMES, chance.randint(0, most_names))
    ins = names[:chance.randint(0, min(4, len(names)))]
    rows = Rows(chance, width, names, chance.randint(0, most), ending).within(0) if names else []
    return Program(width, ins, names[len(ins):], rows)


def lively_programs(seed, many, width=None):
    """Programs of at most three boxes, so that deeds lean on one another, many of which come to an end."""
    chance = random.Random(seed)
    for turn in range(many):
        program = program_of(chance, chance.choice((3, 8, 15, 40)), 3, 0.8, width)
        yield program, words_of(chance, program)


def words_of(chance, program):
    top = 2 ** program.width - 1
    return {name: chance.choice((0, 1, top, chance.randint(0, top))) for name in program.ins}


def deeds_of(chance, many, names="abcd", width=3):
    rows = Rows(chance, width, list(names), many, 0.0)
    return [rows.deed(chance.choice(OPS + ("copy", "tell"))) for place in range(many)]


class Rows:
    def __init__(self, chance, width, names, left, ending):
        self.chance = chance
        self.width = width
        self.names = names
        self.left = left
        self.ending = ending

    def within(self, depth):
        rows = []
        while self.left > 0 and (depth == 0 or self.chance.random() < 0.6):
            self.left -= 1
            rows.append(self.row(depth))
        return rows

    def row(self, depth):
        kind = self.chance.choice(OPS + ("copy", "tell") + ("if", "while") * 3)
        name = self.chance.choice(self.names)
        if kind == "if" and depth < 8:
            return ("if", name, self.within(depth + 1), self.within(depth + 1))
        if kind == "while" and depth < 8:
            return ("while", name, self.within(depth + 1) + self.count_down(name))
        return self.deed(kind)

    def count_down(self, name):
        if self.left == 0 or self.chance.random() >= self.ending:
            return []
        self.left -= 1
        return [("less", name, name, 1)]

    def deed(self, kind):
        name = self.chance.choice(self.names)
        if kind in OPS:
            return (kind, name, self.operand(), self.operand())
        return ("copy", name, self.operand()) if kind == "copy" else ("tell", self.operand())

    def operand(self):
        if self.chance.random() < 0.3:
            return self.chance.randint(0, 2 ** self.width - 1)
        return self.chance.choice(self.names)


def read_by(deed):
    return {part for part in (deed[1:] if deed[0] == "tell" else deed[2:]) if isinstance(part, str)}


def written_by(deed):
    return set() if deed[0] == "tell" else {deed[1]}


def asked_gap(earlier, later):
    if written_by(earlier) & (read_by(later) | written_by(later)) or (earlier[0], later[0]) == ("tell", "tell"):
        return 1
    return 0 if read_by(earlier) & written_by(later) else None


def bits(word, width):
    return [word // 2 ** k % 2 for k in range(width)]


def by_bits(pick, x, y, width):
    return sum(2 ** k * pick(a, b) for k, (a, b) in enumerate(zip(bits(x, width), bits(y, width))))


def asked(op, x, y, width):
    """The word that an operation makes of two words."""
    count = 2 ** width
    if op == "plus":
        return x + y if x + y < count else x + y - count
    if op == "less":
        return x - y if x >= y else x - y + count
    if op == "and":
        return by_bits(min, x, y, width)
    if op == "or":
        return by_bits(max, x, y, width)
    if op == "xor":
        return by_bits(lambda a, b: int(a != b), x, y, width)
    if op == "below":
        return int(y - x > 0)
    return int(x - y == 0)


class Trace:
    """What was told and how the boxes were behind each number of steps, blocks or beats."""

    def __init__(self, program, words):
        self.program = program
        self.now = {name: words[name] if name in program.ins else 0 for name in program.boxes}
        self.all_told = []
        self.standings = []
        self.over_at = None
        self.keep()

    def keep(self):
        self.standings.append((len(self.all_told), dict(self.now)))

    def word(self, operand):
        return self.now[operand] if isinstance(operand, str) else operand

    def made(self, deed):
        parts = [self.word(operand) for operand in (deed[1:] if deed[0] == "tell" else deed[2:])]
        return parts[0] if len(parts) == 1 else asked(deed[0], *parts, self.program.width)

    def do(self, deeds):
        """All these deeds at once: read first, written then."""
        made = [self.made(deed) for deed in deeds]
        for deed, word in zip(deeds, made):
            if deed[0] == "tell":
                self.all_told.append(word)
            else:
                self.now[deed[1]] = word

    def at(self, most):
        """The tuple that a run of at most so many is to tell."""
        many, boxes = self.standings[min(most, len(self.standings) - 1)]
        return (self.all_told[:many], dict(boxes), self.over_at is not None and self.over_at <= most)

    def told_behind(self, most):
        return self.at(most)[0]


def steps_through(trace, rows):
    for row in rows:
        if row[0] == "if":
            chosen = row[2] if trace.now[row[1]] != 0 else row[3]
            yield
            yield from steps_through(trace, chosen)
        elif row[0] == "while":
            while trace.now[row[1]] != 0:
                yield
                yield from steps_through(trace, row[2])
            yield
        else:
            trace.do([row])
            yield


def traced(program, words, most):
    """A run the plain way, looked at behind each of so many steps."""
    trace = Trace(program, words)
    way = steps_through(trace, program.rows)
    for step in range(most + 1):
        if next(way, "over") == "over":
            trace.over_at = step
            return trace
        trace.keep()
    # The step too many only showed that the run was not over.
    trace.standings.pop()
    return trace


def traced_states(program, states, words, most, at_once):
    """Blocks (deeds one by one) or a table (all deeds of a state at once), looked at behind each of so many."""
    trace = Trace(program, words)
    place = 0
    for turn in range(most):
        deeds, ending = states[place]
        looked = dict(trace.now)
        if at_once:
            trace.do(deeds)
        else:
            for deed in deeds:
                trace.do([deed])
            looked = trace.now
        if ending[0] == "choose":
            place = ending[2] if looked[ending[1]] != 0 else ending[3]
        elif ending[0] == "go":
            place = ending[1]
        trace.keep()
        if ending[0] == "stop":
            trace.over_at = turn + 1
            return trace
    return trace


def judge_states(test, program, states):
    """The form that blocks and tables share."""
    test.assertIs(type(states), list)
    for state in states:
        test.assertIs(type(state), tuple)
        deeds, ending = state
        test.assertIs(type(deeds), list)
        test.assertIs(type(ending), tuple)
        for deed in deeds:
            judge_deed(test, program, deed)
        test.assertIn(ending[:1], (("go",), ("choose",), ("stop",)))
        test.assertEqual(len(ending), {"go": 2, "choose": 4, "stop": 1}[ending[0]])
        if ending[0] == "choose":
            test.assertIn(ending[1], program.boxes)
        for place in led_to(ending):
            test.assertIs(type(place), int)
            test.assertTrue(0 <= place < len(states))


def judge_deed(test, program, deed):
    test.assertIs(type(deed), tuple)
    test.assertEqual(len(deed), {"tell": 2, "copy": 3}.get(deed[0], 4))
    test.assertIn(deed[0], OPS + ("tell", "copy"))
    if deed[0] != "tell":
        test.assertIn(deed[1], program.boxes)
    for operand in deed[1:] if deed[0] == "tell" else deed[2:]:
        if isinstance(operand, str):
            test.assertIn(operand, program.boxes)
        else:
            test.assertTrue(0 <= operand < 2 ** program.width)


def led_to(ending):
    return [part for part in ending[1:] if not isinstance(part, str)]


def reached(states):
    """The numbers to which some way leads from state or block 0."""
    found = [0]
    for place in found:
        found.extend(other for other in dict.fromkeys(led_to(states[place][1])) if other not in found)
    return set(found)


def judge_pace(test, program, words, states, pace, at_once, most=60):
    """The states tell what the program tells, soon enough, and stop where it is over, with the same boxes."""
    plain = traced(program, words, most)
    woven = traced_states(program, states, words, pace * most + pace, at_once)
    long_plain = traced(program, words, 10 * len(woven.standings))
    for steps in range(most + 1):
        told = plain.told_behind(steps)
        test.assertEqual(woven.told_behind(pace * steps + pace)[:len(told)], told)
    test.assertEqual(long_plain.all_told[:len(woven.all_told)], woven.all_told)
    if plain.over_at is not None:
        test.assertIsNotNone(woven.over_at)
        test.assertLessEqual(woven.over_at, pace * plain.over_at + pace)
    if woven.over_at is not None:
        test.assertIsNotNone(long_plain.over_at)
        test.assertEqual(woven.at(woven.over_at), long_plain.at(long_plain.over_at))


def table_for(chance, program, many):
    """Some table of the program's boxes that no program made, so that its ways lead anywhere."""
    table = []
    for place in range(many):
        deeds = {}
        for deed in deeds_of(chance, chance.randint(0, 4), program.boxes, program.width) if program.boxes else []:
            deeds["tell" if deed[0] == "tell" else ("box", deed[1])] = deed
        table.append((list(deeds.values()), ending_for(chance, program, many)))
    return table


def ending_for(chance, program, many):
    kind = chance.choice(("go", "choose", "choose", "stop") if program.boxes else ("go", "stop"))
    if kind == "choose":
        return ("choose", chance.choice(program.boxes), chance.randrange(many), chance.randrange(many))
    return ("go", chance.randrange(many)) if kind == "go" else ("stop",)


def asked_wires(rows, words, beats):
    """The bits of all wires at each beat."""
    told = []
    for beat in range(beats):
        bits = {}
        for wire, (kind, *parts) in enumerate(rows):
            if kind == "fix":
                bits[wire] = parts[0]
            elif kind == "in":
                bits[wire] = words[parts[0]] // 2 ** parts[1] % 2
            elif kind == "latch":
                bits[wire] = told[beat - 1][parts[0]] if beat else 0
            else:
                of = [bits[part] for part in parts]
                bits[wire] = int({"not": not of[0], "and": all(of), "or": any(of), "xor": sum(of) == 1}[kind])
        told.append([bits[wire] for wire in range(len(rows))])
    return told


def some_rows(chance, many):
    """Rows of gates that no program made."""
    rows = []
    for place in range(many):
        kind = chance.choice(("fix", "in", "latch", "latch", "not", "and", "or", "xor") if place
                             else ("fix", "in", "latch"))
        if kind == "fix":
            rows.append(("fix", chance.randint(0, 1)))
        elif kind == "in":
            rows.append(("in", chance.choice(("a", "b")), chance.randint(0, 3)))
        elif kind == "latch":
            rows.append(("latch", chance.randrange(many)))
        else:
            rows.append((kind,) + tuple(chance.randrange(place) for part in range(1 if kind == "not" else 2)))
    return rows


def net_with(rows, boxes, tell, said, stop):
    """A net of these rows and wires, whichever way nets are made."""
    program = Program(1, [], [], [])
    net = net_of(program, table_of(program, (1, 1, 1)))
    net.rows, net.boxes, net.tell, net.said, net.stop = rows, boxes, tell, said, stop
    return net


def net_parts(net):
    return copy.deepcopy((net.rows, net.boxes, net.tell, net.said, net.stop))


def judge_net(test, program, net):
    """The form that point 15 gives a net."""
    test.assertIs(type(net.rows), list)
    test.assertLessEqual(len(net.rows), 60000)
    for place, row in enumerate(net.rows):
        test.assertIs(type(row), tuple)
        test.assertEqual(len(row), {"fix": 2, "not": 2, "latch": 2}.get(row[0], 3))
        test.assertIn(row[0], ("fix", "in", "latch", "not", "and", "or", "xor"))
        if row[0] == "fix":
            test.assertIn(row[1], (0, 1))
        elif row[0] == "in":
            test.assertIn(row[1], program.ins)
            test.assertTrue(0 <= row[2] < program.width)
        else:
            bound = len(net.rows) if row[0] == "latch" else place
            test.assertTrue(all(type(wire) is int and 0 <= wire < bound for wire in row[1:]))
    test.assertIs(type(net.boxes), dict)
    test.assertEqual(sorted(net.boxes), sorted(program.boxes))
    for wires in list(net.boxes.values()) + [net.said]:
        test.assertIs(type(wires), list)
        test.assertEqual(len(wires), program.width)
    for wire in sum(net.boxes.values(), net.said + [net.tell, net.stop]):
        test.assertTrue(type(wire) is int and 0 <= wire < len(net.rows))


def judge_beats(test, program, table, net, words, most=40):
    """Beat by beat, what point 15 asks of a net's wires for a table."""
    trace = traced_states(program, table, words, most, True)
    told = asked_wires(net.rows, words, most + 1)
    test.assertEqual((told[0][net.tell], told[0][net.stop]), (0, 0))
    for beat, bits in enumerate(told[1:]):
        over = trace.over_at is not None and beat >= trace.over_at
        test.assertEqual(boxes_on(net, bits), trace.at(beat)[1])
        test.assertEqual(bits[net.stop], int(over))
        said = trace.told_behind(beat + 1)[len(trace.told_behind(beat)):]
        test.assertEqual(bits[net.tell], len(said))
        if said:
            test.assertEqual(word_on(net.said, bits), said[0])


def boxes_on(net, bits):
    return {name: word_on(wires, bits) for name, wires in net.boxes.items()}


def word_on(wires, bits):
    return sum(2 ** k for k, wire in enumerate(wires) if bits[wire])


def latches(net):
    return sum(row[0] == "latch" for row in net.rows)


def judge_told(test, told):
    """The kinds in what a run tells; a word is never True or False."""
    test.assertIs(type(told), tuple)
    test.assertEqual([type(part) for part in told], [list, dict, bool])
    test.assertEqual({type(word) for word in told[0] + list(told[1].values())} - {int}, set())


def parts(program):
    """All fields, with copies of what they hold."""
    return copy.deepcopy((program.width, program.ins, program.boxes, program.rows))


def spoil(told):
    """Changes every list and dict in what was told."""
    if isinstance(told, (list, tuple)):
        for part in told:
            spoil(part)
    elif isinstance(told, dict):
        for part in told.values():
            spoil(part)
        told.clear()
        told["spoiled"] = 1
    if isinstance(told, list):
        told.clear()
        told.append("spoiled")
