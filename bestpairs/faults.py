"""What may be wrong with a text, and where."""

TOO_LONG = 1
NO_TOKEN = 2
NOT_ALLOWED = 3
TOO_MANY = 4
TOLD_TWICE = 5
TOO_GREAT = 7


class Fault(Exception):
    """A text is no list that is right: the fault's code, and its place."""

    def __init__(self, code, place):
        self.code = code
        self.place = place
