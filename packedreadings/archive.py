"""The archive of four series, asked by one list of calls."""

from packedreadings.answering import answer_of
from packedreadings.keeping import Series
from packedreadings.limits import SERIES_COUNT
from packedreadings.shapes import is_row, shape_of


class Reader:
    """Takes numbers and rows from a list, one behind another, and leaves the list as it is."""

    def __init__(self, numbers):
        self.numbers = numbers
        self.at = 0

    def has_more(self):
        return self.at < len(self.numbers)

    def take_number(self):
        number = self.numbers[self.at]
        self.at = self.at + 1
        return number

    def take_row(self):
        length = self.take_number()
        row = self.numbers[self.at:self.at + length]
        self.at = self.at + length
        return row

    def take_kind(self, kind):
        if is_row(kind):
            return self.take_row()
        return self.take_number()


def take_givens(reader, call_number):
    """The numbers and rows that stand behind a call's number."""
    givens = []
    for kind in shape_of(call_number):
        givens.append(reader.take_kind(kind))
    return givens


def answers(calls):
    """For each call in the list, in order: how many numbers are answered, then these."""
    all_series = [Series() for number in range(SERIES_COUNT)]
    reader = Reader(calls)
    told = []
    while reader.has_more():
        call_number = reader.take_number()
        answer = answer_of(all_series, call_number, take_givens(reader, call_number))
        told.append(len(answer))
        told.extend(answer)
    return told
