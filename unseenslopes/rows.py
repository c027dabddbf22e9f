"""The rows of slot code.

A row is a tuple: the slot that it writes, its word, the items of the word, and the slots that it
reads.

word           items
in             the name of an input
put            a Ratio, no integer
add, sub, mul  -
one            the name of an unseen function, its number of slopes
two            the name of an unseen function, the tuple of its two numbers of slopes
"""

from unseenslopes.ratios import Ratio, is_integer

MOST_SLOPES = 12
SIZES = {"in": 3, "put": 3, "add": 4, "sub": 4, "mul": 4, "one": 5, "two": 6}
FIRST_READS = {"in": 3, "put": 3, "add": 2, "sub": 2, "mul": 2, "one": 4, "two": 4}


def is_slot(value):
    """Whether any value is the number of a slot."""
    return is_integer(value) and value >= 0


def is_order(value, low):
    """Whether any value is a number of slopes, from a lowest one on."""
    return is_integer(value) and low <= value <= MOST_SLOPES


def is_pair_of_orders(value):
    """Whether any value is the numbers of slopes of a function of two arguments."""
    return isinstance(value, tuple) and len(value) == 2 and all([is_order(order, 0) for order in value])


def is_of_arity(world, name, arity):
    """Whether any value is the name of an unseen function of the arity."""
    return name in world.functions() and world.fact(name).arity == arity


def is_row(world, value):
    """Whether any value is a row; what was written ahead of it is not asked."""
    if not isinstance(value, tuple) or len(value) < 3 or not is_slot(value[0]):
        return False
    if not isinstance(value[1], str) or value[1] not in SIZES or len(value) != SIZES[value[1]]:
        return False
    return all([is_slot(slot) for slot in reads_of(value)]) and has_items(world, value)


def has_items(world, row):
    """Whether the items of a tuple with the word of a row are those of this word."""
    word = row[1]
    if word == "in":
        return row[2] in world.inputs()
    if word == "put":
        return isinstance(row[2], Ratio)
    if word == "one":
        return is_of_arity(world, row[2], 1) and is_order(row[3], -1)
    if word == "two":
        return is_of_arity(world, row[2], 2) and is_pair_of_orders(row[3])
    return True


def reads_of(row):
    """The tuple of the slots that a row reads."""
    return row[FIRST_READS[row[1]]:]


def moved_row(row, slot, places):
    """A row that writes another slot, and reads by a dict other ones."""
    head = row[1:FIRST_READS[row[1]]]
    return (slot, *head, *[places[read] for read in reads_of(row)])


def item_text(item):
    """The text of an item of a row."""
    return f"{item[0]},{item[1]}" if isinstance(item, tuple) else str(item)


def deed_text(row):
    """The text of what a row does, without the slot that it writes."""
    return " ".join([item_text(item) for item in row[1:]])


def row_text(row):
    """The text of a row."""
    return f"{row[0]} = {deed_text(row)}"


def answers_text(slots):
    """The text of the slots of the answers."""
    return " ".join(["answer", *[str(slot) for slot in slots]])
