"""Texts, which are lists of bytes, read into tokens."""

MOST_BYTES = 4096
LONGEST_CHUNK = 40
REMARK = 35
LINE_END = 10
BLANKS = (32, 9, 10)
SEMICOLON = 59
LETTERS = "abcdefghijklmnopqrstuvwxyz"
DIGITS = "0123456789"


class Fault(Exception):
    """A text is not what it has to be: the fault's code and its place."""

    def __init__(self, code, place):
        self.code = code
        self.place = place


def chunk_sign(byte):
    """The sign that a byte stands for in a chunk; empty if it may not stand in one."""
    if 97 <= byte <= 122:
        return LETTERS[byte - 97]
    if 48 <= byte <= 57:
        return DIGITS[byte - 48]
    if byte == 45:
        return "-"
    if byte == 46:
        return "."
    return ""


def after_remark(text, place):
    """The place of the row's end behind the remark that begins here, or the text's end."""
    while place < len(text) and text[place] != LINE_END:
        place += 1
    return place


def after_blanks(text, place):
    """The first place from this one on where neither a blank nor a remark stands."""
    while place < len(text):
        if text[place] == REMARK:
            place = after_remark(text, place)
        elif text[place] in BLANKS:
            place += 1
        else:
            return place
    return place


def chunk_at(text, place):
    """The signs from this place on that may stand in a chunk, as far as they go."""
    signs = []
    while place < len(text) and chunk_sign(text[place]) != "":
        signs.append(chunk_sign(text[place]))
        place += 1
    return "".join(signs)


def token_at(text, place):
    """The signs of the token that has to begin at this place."""
    if text[place] == SEMICOLON:
        return ";"
    chunk = chunk_at(text, place)
    if chunk == "" or len(chunk) > LONGEST_CHUNK:
        raise Fault(2, place)
    return chunk


def tokens_of(text):
    """All tokens as pairs of a place and its signs; the last one is the text's end, without signs."""
    if len(text) > MOST_BYTES:
        raise Fault(1, MOST_BYTES)
    found = []
    place = after_blanks(text, 0)
    while place < len(text):
        signs = token_at(text, place)
        found.append((place, signs))
        place = after_blanks(text, place + len(signs))
    found.append((len(text), ""))
    return found
