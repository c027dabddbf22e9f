"""An independent reader for the tests: the grammar of [8] as data, and the first token that does not fit.

The recogniser of Earley keeps all ways to read the tokens so far; a token fits exactly if some
program begins with the tokens up to it.
"""

import re

GRAMMAR = {
    "PROGRAM": [["LETS", "SUM", "end"]],
    "LETS": [[], ["LETS", "let", "name", "=", "SUM", ";"]],
    "SUM": [["PRODUCT"], ["SUM", "+", "PRODUCT"], ["SUM", "-", "PRODUCT"]],
    "PRODUCT": [["SIGNED"], ["PRODUCT", "*", "SIGNED"]],
    "SIGNED": [["CALL"], ["-", "CALL"]],
    "CALL": [
        ["FACTOR"], ["CALL", "(", "SUM", ")"], ["name", "(", "SUM", ",", "SUM", ")"],
        ["name", "[", "order", ",", "order", "]", "(", "SUM", ",", "SUM", ")"],
    ],
    "FACTOR": [
        ["NUMERAL"], ["blank"], ["(", "SUM", ")"], ["name"], ["name", "[", "order", "]"], ["fn", "name", ":", "SUM"],
        ["fn", "@", "name", ":", "SUM"], ["slope", "(", "SUM", ")"], ["integral", "(", "SUM", ",", "SUM", ",", "name", ")"],
    ],
    "NUMERAL": [["order"], ["numeral"]],
}


def cut(text):
    """The list of the pairs (kind, place) of the tokens of a text without wrong ones."""
    tokens = []
    for found in re.finditer(r" +|([a-z]+)|([0-9]+(?:/[0-9]+)?)|(\?[1-6])|(.)", text):
        word, numeral, blank, sign = found.groups()
        if word:
            tokens.append((word if word in ("fn", "let", "slope", "integral") else "name", found.start()))
        elif numeral:
            tokens.append(("order" if numeral in ("0", "1", "2", "3", "4") else "numeral", found.start()))
        elif blank:
            tokens.append(("blank", found.start()))
        elif sign:
            tokens.append((sign, found.start()))
    return [*tokens, ("end", len(text))]


def closed(items, columns, at):
    """The items of a column with all that they predict and complete."""
    found = dict.fromkeys(items)
    waiting = list(items)

    def note(item):
        if item not in found:
            found[item] = None
            waiting.append(item)

    while waiting:
        name, index, dot, origin = waiting.pop()
        row = GRAMMAR[name][index]
        if dot == len(row):
            column = found if origin == at else columns[origin]
            for other, way, there, begin in list(column):
                parts = GRAMMAR[other][way]
                if there < len(parts) and parts[there] == name:
                    note((other, way, there + 1, begin))
        elif row[dot] in GRAMMAR:
            for way in range(len(GRAMMAR[row[dot]])):
                note((row[dot], way, 0, at))
            # A nonterminal that can be empty and was completed here before this item came.
            if [] in GRAMMAR[row[dot]]:
                note((name, index, dot + 1, origin))
    return found


def wrong_place(text):
    """The place of the first token that does not fit, or None for a text that is a program."""
    columns = [closed([("PROGRAM", 0, 0, 0)], [], 0)]
    for at, (kind, place) in enumerate(cut(text)):
        moved = []
        for name, index, dot, origin in columns[at]:
            row = GRAMMAR[name][index]
            if dot < len(row) and row[dot] == kind:
                moved.append((name, index, dot + 1, origin))
        if not moved:
            return place
        columns.append(closed(moved, columns, at + 1))
    return None
