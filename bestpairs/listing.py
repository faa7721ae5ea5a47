"""A list of items, read from its text."""

from bestpairs.faults import NOT_ALLOWED, TOLD_TWICE, TOO_GREAT, TOO_LONG, TOO_MANY, Fault
from bestpairs.tokens import END, NAME, NUMBER, tokens_of

MOST_BYTES = 4096
MOST_MEASURES = 4
MOST_ITEMS = 16
GREATEST_VALUE = 1000


class Listing:
    """Measures by name and direction, and items by name with a row of values each, as they are told."""

    def __init__(self):
        self.measure_names = []
        self.ups = []
        self.item_names = []
        self.rows = []


class TokenReader:
    """Tokens taken from left to right."""

    def __init__(self, tokens):
        self.tokens = tokens
        self.position = 0

    def sees(self, kind):
        return self.tokens[self.position].kind == kind

    def take(self, kind):
        """The token that comes now, which has to be of this kind."""
        token = self.tokens[self.position]
        if token.kind != kind:
            raise Fault(NOT_ALLOWED, token.place)
        self.position += 1
        return token


def listing_of(text):
    """The list that a text tells; raises the Fault to be told if it is not right."""
    if len(text) > MOST_BYTES:
        raise Fault(TOO_LONG, MOST_BYTES)
    # All is cut before anything is read: a place without a token is told ahead of what stands left of it.
    reader = TokenReader(tokens_of(text))
    listing = Listing()
    read_measures(reader, listing)
    while not reader.sees(END):
        read_item(reader, listing)
    return listing


def read_measures(reader, listing):
    reader.take("measures")
    read_measure(reader, listing)
    while reader.sees(","):
        reader.take(",")
        read_measure(reader, listing)
    reader.take(";")


def read_measure(reader, listing):
    name = reader.take(NAME)
    if len(listing.measure_names) == MOST_MEASURES:
        raise Fault(TOO_MANY, name.place)
    keep_new_name(listing.measure_names, name)
    listing.ups.append(read_direction(reader))


def read_direction(reader):
    """True for up, False for down."""
    if reader.sees("up"):
        reader.take("up")
        return True
    reader.take("down")
    return False


def read_item(reader, listing):
    word = reader.take("item")
    if len(listing.item_names) == MOST_ITEMS:
        raise Fault(TOO_MANY, word.place)
    keep_new_name(listing.item_names, reader.take(NAME))
    reader.take(":")
    row = [read_value(reader)]
    while len(row) < len(listing.ups):
        reader.take(",")
        row.append(read_value(reader))
    reader.take(";")
    listing.rows.append(row)


def keep_new_name(names, token):
    if token.content in names:
        raise Fault(TOLD_TWICE, token.place)
    names.append(token.content)


def read_value(reader):
    negative = reader.sees("-")
    if negative:
        reader.take("-")
    number = reader.take(NUMBER)
    if number.content > GREATEST_VALUE:
        raise Fault(TOO_GREAT, number.place)
    return -number.content if negative else number.content
