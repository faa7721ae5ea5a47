"""Calls on one object, handed in and answered as one list of whole numbers."""

from bestpairs.calls import Held, answer, count_numbers, count_rows


class CallReader:
    """The numbers of the calls, taken one behind another."""

    def __init__(self, numbers):
        self.numbers = numbers
        self.position = 0

    def has_more(self):
        return self.position < len(self.numbers)

    def take_number(self):
        number = self.numbers[self.position]
        self.position += 1
        return number

    def take_row(self):
        begin = self.position + 1
        self.position = begin + self.numbers[self.position]
        return self.numbers[begin:self.position]

    def take_given(self, call):
        given = []
        for place in range(count_numbers(call)):
            given.append(self.take_number())
        for place in range(count_rows(call)):
            given.append(self.take_row())
        return given


def answers(calls):
    """For each call how many numbers are answered, and these."""
    held = Held()
    reader = CallReader(calls)
    told = []
    while reader.has_more():
        call = reader.take_number()
        answered = answer(held, call, reader.take_given(call))
        told.append(len(answered))
        told.extend(answered)
    return told
