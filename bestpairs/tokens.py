"""Texts cut into tokens."""

from bestpairs.faults import NO_TOKEN, Fault

NAME = "name"
NUMBER = "number"
END = "end"
WORDS = ("measures", "up", "down", "item")
SIGNS = {44: ",", 58: ":", 59: ";", 45: "-"}
BLANKS = (32, 9, 10)
REMARK_BEGIN = 35
LINE_END = 10
ZERO = 48
LONGEST_NAME = 16
MOST_DIGITS = 10
GREATEST_NUMBER = 1000000000


class Token:
    """A token: its kind (a word or a sign is its own kind), its place, a name's bytes or a number's value."""

    def __init__(self, kind, place, content):
        self.kind = kind
        self.place = place
        self.content = content


def tokens_of(text):
    """The tokens of a text, and behind them one that stands for its end."""
    found = []
    place = after_blanks(text, 0)
    while place < len(text):
        end = token_end(text, place)
        found.append(token_at(text, place, end))
        place = after_blanks(text, end)
    found.append(Token(END, len(text), None))
    return found


def after_blanks(text, place):
    while place < len(text):
        if text[place] in BLANKS:
            place += 1
        elif text[place] == REMARK_BEGIN:
            place = remark_end(text, place)
        else:
            break
    return place


def remark_end(text, place):
    while place < len(text) and text[place] != LINE_END:
        place += 1
    return place


def is_letter(byte):
    return 65 <= byte <= 90 or 97 <= byte <= 122


def is_digit(byte):
    return ZERO <= byte <= ZERO + 9


def token_end(text, start):
    """The place behind the token that begins at start; at least the one behind start."""
    end = start + 1
    if is_letter(text[start]):
        while end < len(text) and (is_letter(text[end]) or is_digit(text[end])):
            end += 1
    elif is_digit(text[start]):
        while end < len(text) and is_digit(text[end]):
            end += 1
    return end


def token_at(text, start, end):
    byte = text[start]
    if is_letter(byte):
        return word_or_name(text, start, end)
    if is_digit(byte):
        return Token(NUMBER, start, number_value(text, start, end))
    if byte in SIGNS:
        return Token(SIGNS[byte], start, None)
    raise Fault(NO_TOKEN, start)


def word_or_name(text, start, end):
    if end - start > LONGEST_NAME:
        raise Fault(NO_TOKEN, start)
    spelled = text[start:end]
    for word in WORDS:
        if spelled == [ord(letter) for letter in word]:
            return Token(word, start, None)
    return Token(NAME, start, spelled)


def number_value(text, start, end):
    # The digits are counted first, so that thousands of them are never made a number.
    if end - start > MOST_DIGITS or (text[start] == ZERO and end - start > 1):
        raise Fault(NO_TOKEN, start)
    value = 0
    for byte in text[start:end]:
        value = value * 10 + byte - ZERO
    if value > GREATEST_NUMBER:
        raise Fault(NO_TOKEN, start)
    return value
