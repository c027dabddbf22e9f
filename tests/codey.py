"""Random slot codes, and what they answer by an independent reckoning."""

from fractions import Fraction

from oracle import plain
from bridge import fraction
from unseenslopes.codes import Code
from unseenslopes.ratios import Ratio


def random_code(world, source, most=14, orders=(-1, 0, 0, 0, 1, 2), slots=5, products=True):
    """A random code in which slots are written again and again."""
    ones = [name for name in world.functions() if world.fact(name).arity == 1]
    twos = [name for name in world.functions() if world.fact(name).arity == 2]
    rows = []
    written = []
    depths = {}
    for _ in range(source.randint(1, most)):
        slot = source.randrange(slots)
        words = ["in", "put"]
        if written:
            words += ["add", "sub", "one", "two", "mul", "in"]
        word = source.choice(words)
        a = source.choice(written) if written else 0
        b = source.choice(written) if written else 0
        deep = max(depths.get(a, 0), depths.get(b, 0))
        if word == "mul" and (deep > 3 or not products):
            word = "add"
        if word in ("one", "two") and deep > 2:
            word = "sub"
        if word == "in" and world.inputs():
            row, depth = (slot, "in", source.choice(world.inputs())), 0
        elif word in ("in", "put"):
            row, depth = (slot, "put", source.choice([Ratio(0), Ratio(1), Ratio(2), Ratio(-3), Ratio(1, 2), Ratio(-2, 3)])), 0
        elif word == "one" and ones:
            row, depth = (slot, "one", source.choice(ones), source.choice(orders), a), deep + 1
        elif word == "two" and twos:
            pair = source.choice([(0, 0), (0, 0), (1, 0), (0, 1), (1, 1), (0, 2)])
            row, depth = (slot, "two", source.choice(twos), pair, a, b), deep + 1
        else:
            word = word if word in ("add", "sub", "mul") else "add"
            row, depth = (slot, word, a, b), deep + (word == "mul")
        rows.append(row)
        depths[slot] = depth
        written = sorted({*written, slot})
    answers = [source.choice(written) for _ in range(source.randint(0, 3))]
    return Code(world, rows, answers)


def run_code(code, witness):
    """The tagged numbers of the answers at a witness of the independent reckoning."""
    held = {}
    for row in code.listing():
        held[row[0]] = run_row(row, held, witness)
    return [held[slot] for slot in code.answer_slots()]


def run_row(row, held, witness):
    word = row[1]
    if word == "in":
        return witness.input(row[2])
    if word == "put":
        return plain(fraction(row[2]))
    if word == "one":
        return witness.one(row[2], row[3])(held[row[4]])
    if word == "two":
        return witness.shapes[row[2]].slope(*row[3])(held[row[4]], held[row[5]])
    one, other = held[row[2]], held[row[3]]
    return one + other if word == "add" else one - other if word == "sub" else one * other


def worths(code, witness):
    """The Fractions of the answers."""
    return [number.worth for number in run_code(code, witness)]


def slopes(code, witness, index, name):
    """The slope of an answer by an input, a Fraction."""
    witness.moves = {name: ["step"]}
    number = run_code(code, witness)[index]
    witness.moves = {}
    return number.parts.get(frozenset(["step"]), Fraction(0))


def reads_of(row):
    """The slots that a row reads."""
    return row[{"in": 3, "put": 3, "add": 2, "sub": 2, "mul": 2, "one": 4, "two": 4}[row[1]]:]


def read_code(world, text):
    """The rows and the slots of the answers that the text of a code tells."""
    *pieces, last = text.split("; ")
    word, *slots = last.split(" ")
    assert word == "answer", text
    return [read_row(world, piece) for piece in pieces], [int(slot) for slot in slots]


def read_row(world, text):
    slot, sign, word, *items = text.split(" ")
    assert sign == "=", text
    if word == "in":
        return (int(slot), word, *items)
    if word == "put":
        return (int(slot), word, *[Ratio.read(item) for item in items])
    names, numbers = [item for item in items if item in world], [item for item in items if item not in world]
    return (int(slot), word, *names, *[tuple(map(int, item.split(","))) if "," in item else int(item) for item in numbers])


def values_of(code):
    """The rows as (what it does, the indexes of the rows whose values it reads), and those of the answers."""
    places = {}
    found = []
    for index, row in enumerate(code.listing()):
        first = len(row) - len(reads_of(row))
        found.append((row[1:first], tuple(places[slot] for slot in reads_of(row))))
        places[row[0]] = index
    return found, [places[slot] for slot in code.answer_slots()]


def assert_straight(case, code):
    """Asks that each slot is written once and the index of its row, and each row is read later or an answer."""
    rows = code.listing()
    case.assertEqual([row[0] for row in rows], list(range(len(rows))))
    read = {slot for row in rows for slot in reads_of(row)} | set(code.answer_slots())
    case.assertEqual(read, set(range(len(rows))))
