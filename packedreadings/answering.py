"""Which function answers which call."""

from packedreadings.changes import add_row, clear_series, fix_place, trim_series
from packedreadings.limits import NOT_AS_TOLD
from packedreadings.packing import bits_of_self_ending, bytes_of_block, codes_of_row, sizes_of_blocks
from packedreadings.pairing import copy_series, fill_gaps, first_difference
from packedreadings.queries import coarse_pieces, extremes_of_span, get_place, history_of_place, seek_from
from packedreadings.queries import state_of_all, sum_of_span, was_at_place
from packedreadings.shapes import all_fit
from packedreadings.unpacking import load_row, unpack_row


def change_or_look(call_number, series, givens):
    """The calls 0 to 4: changes, and what stands or stood at one place."""
    if call_number == 0:
        return clear_series(series)
    if call_number == 1:
        return add_row(series, givens[1])
    if call_number == 2:
        return fix_place(series, givens[1], givens[2])
    if call_number == 3:
        return get_place(series, givens[1])
    return was_at_place(series, givens[1], givens[2])


def survey(call_number, series, givens):
    """The calls 5 to 10: what many places together come to."""
    if call_number == 5:
        return sum_of_span(series, givens[1], givens[2])
    if call_number == 6:
        return extremes_of_span(series, givens[1], givens[2])
    if call_number == 7:
        return seek_from(series, givens[1], givens[2])
    if call_number == 8:
        return coarse_pieces(series, givens[1])
    if call_number == 9:
        return sizes_of_blocks(series)
    return bytes_of_block(series, givens[1])


def read_or_code(call_number, all_series, givens):
    """The calls 11 to 14: bytes read as a block, and what given numbers are in bits."""
    if call_number == 11:
        return unpack_row(givens[0])
    if call_number == 12:
        return load_row(all_series[givens[0]], givens[1])
    if call_number == 13:
        return codes_of_row(givens[0])
    return bits_of_self_ending(givens[0])


def pair_or_trace(call_number, all_series, givens):
    """The calls 15 to 20: two series together, an end cut off, and what is kept."""
    if call_number == 15:
        return copy_series(all_series, givens[0], givens[1])
    if call_number == 16:
        return first_difference(all_series[givens[0]], all_series[givens[1]], givens[2])
    if call_number == 17:
        return fill_gaps(all_series[givens[0]], all_series[givens[1]])
    if call_number == 18:
        return trim_series(all_series[givens[0]], givens[1])
    if call_number == 19:
        return history_of_place(all_series[givens[0]], givens[1])
    return state_of_all(all_series)


def answer_of(all_series, call_number, givens):
    """The answer of one call: 0 and what is told with it, or a refusal alone."""
    if not all_fit(call_number, givens):
        return [NOT_AS_TOLD]
    if call_number <= 4:
        return change_or_look(call_number, all_series[givens[0]], givens)
    if call_number <= 10:
        return survey(call_number, all_series[givens[0]], givens)
    if call_number <= 14:
        return read_or_code(call_number, all_series, givens)
    return pair_or_trace(call_number, all_series, givens)
