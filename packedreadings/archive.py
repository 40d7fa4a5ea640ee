"""The archive of four series, asked by one list of calls."""

from packedreadings.changes import add_row, clear_series, fix_place
from packedreadings.keeping import Series
from packedreadings.limits import NOT_AS_TOLD, SERIES_COUNT
from packedreadings.packing import bytes_of_block, sizes_of_blocks
from packedreadings.queries import coarse_pieces, extremes_of_span, get_place, seek_from, sum_of_span, was_at_place
from packedreadings.shapes import all_fit, is_row, shape_of


class Reader:
    """Takes numbers and rows from a list, one behind another, and leaves the list as it is."""

    def __init__(self, numbers):
        self.numbers = numbers
        self.at = 0

    def has_more(self):
        return self.at < len(self.numbers)

    def take_number(self):
        number = self.numbers[self.at]
        self.at = self.at + 1
        return number

    def take_row(self):
        length = self.take_number()
        row = self.numbers[self.at:self.at + length]
        self.at = self.at + length
        return row

    def take_kind(self, kind):
        if is_row(kind):
            return self.take_row()
        return self.take_number()


def take_givens(reader, call_number):
    """The numbers and rows that stand behind a call's number."""
    givens = []
    for kind in shape_of(call_number):
        givens.append(reader.take_kind(kind))
    return givens


def change_or_look(call_number, series, givens):
    """The calls 0 to 4: changes, and what stands or stood at one place."""
    if call_number == 0:
        return clear_series(series)
    if call_number == 1:
        return add_row(series, givens[1])
    if call_number == 2:
        return fix_place(series, givens[1], givens[2])
    if call_number == 3:
        return get_place(series, givens[1])
    return was_at_place(series, givens[1], givens[2])


def survey(call_number, series, givens):
    """The calls 5 to 10: what many places together come to."""
    if call_number == 5:
        return sum_of_span(series, givens[1], givens[2])
    if call_number == 6:
        return extremes_of_span(series, givens[1], givens[2])
    if call_number == 7:
        return seek_from(series, givens[1], givens[2])
    if call_number == 8:
        return coarse_pieces(series, givens[1])
    if call_number == 9:
        return sizes_of_blocks(series)
    return bytes_of_block(series, givens[1])


def answer_of(all_series, call_number, givens):
    """The answer of one call: 0 and what is told with it, or a refusal alone."""
    if not all_fit(call_number, givens):
        return [NOT_AS_TOLD]
    series = all_series[givens[0]]
    if call_number <= 4:
        return change_or_look(call_number, series, givens)
    return survey(call_number, series, givens)


def answers(calls):
    """For each call in the list, in order: how many numbers are answered, then these."""
    all_series = [Series() for number in range(SERIES_COUNT)]
    reader = Reader(calls)
    told = []
    while reader.has_more():
        call_number = reader.take_number()
        answer = answer_of(all_series, call_number, take_givens(reader, call_number))
        told.append(len(answer))
        told.extend(answer)
    return told
