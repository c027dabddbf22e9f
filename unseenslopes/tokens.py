"""The tokens of the texts of programs."""

from unseenslopes.errors import InvalidText
from unseenslopes.ratios import DIGITS, is_numeral
from unseenslopes.unseen import LETTERS, MOST_LETTERS

BLANKS = ("?1", "?2", "?3", "?4", "?5", "?6")
SIGNS = "()[]+-*,:;=@"
LONG_WORD = "integral"


class Token:
    """A piece of a text with its place; `kind` is word, numeral, blank, sign, or end with an empty text."""

    def __init__(self, kind, text, at):
        self.kind = kind
        self.text = text
        self.at = at


def tokens_of(text):
    """The list of the tokens of a string, with the end as the last one."""
    tokens = []
    at = 0
    while at < len(text):
        if text[at] == " ":
            at += 1
        else:
            token = token_at(text, at)
            tokens.append(token)
            at = at + len(token.text)
    tokens.append(Token("end", "", len(text)))
    return tokens


def token_at(text, at):
    """The token that begins at a place."""
    first = text[at]
    if first in LETTERS:
        return word_at(text, at)
    if first in DIGITS:
        return numeral_at(text, at)
    if text[at:at + 2] in BLANKS:
        return Token("blank", text[at:at + 2], at)
    if first in SIGNS:
        return Token("sign", first, at)
    raise InvalidText(at)


def word_at(text, at):
    """The word that begins at a place."""
    word = text[at:end_of_run(text, at, LETTERS)]
    if len(word) > MOST_LETTERS and word != LONG_WORD:
        raise InvalidText(at)
    return Token("word", word, at)


def numeral_at(text, at):
    """The numeral that begins at a place; a slash belongs to it if a digit follows."""
    end = end_of_run(text, at, DIGITS)
    if text[end:end + 1] == "/":
        behind = end_of_run(text, end + 1, DIGITS)
        end = behind if behind > end + 1 else end
    numeral = text[at:end]
    if not is_numeral(numeral):
        raise InvalidText(at)
    return Token("numeral", numeral, at)


def end_of_run(text, at, signs):
    """The first place from a place on that has none of the signs."""
    end = at
    while end < len(text) and text[end] in signs:
        end += 1
    return end


def squeezed(text):
    """A text without the spaces that its tokens do not need: those that do not part words."""
    pieces = []
    is_behind_word = False
    for token in tokens_of(text):
        is_word = token.kind == "word"
        pieces.append(f" {token.text}" if is_word and is_behind_word else token.text)
        is_behind_word = is_word
    return "".join(pieces)
