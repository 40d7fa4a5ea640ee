"""The calls that ask what stands or stood in series: get, was, sum, span, seek, coarse, history and state."""

from packedreadings.gaps import GAP, readings_in
from packedreadings.limits import NO_READING, NO_SUCH_PLACE, TOO_FEW_CORRECTIONS
from packedreadings.telling import told_row, told_value, told_values


def get_place(series, place):
    if not series.has_place(place):
        return [NO_SUCH_PLACE]
    return [0] + told_value(series.standing[place])


def was_at_place(series, place, done):
    if not series.has_place(place):
        return [NO_SUCH_PLACE]
    if series.correction_count() < done:
        return [TOO_FEW_CORRECTIONS]
    return [0] + told_value(series.value_as_of(place, done))


def is_span(series, start, end):
    return start <= end and end <= series.place_count()


def sum_of_span(series, start, end):
    if not is_span(series, start, end):
        return [NO_SUCH_PLACE]
    readings = readings_in(series.standing[start:end])
    return [0, len(readings), sum(readings)]


def extremes_of_span(series, start, end):
    if not is_span(series, start, end):
        return [NO_SUCH_PLACE]
    values = series.standing[start:end]
    readings = readings_in(values)
    if len(readings) == 0:
        return [NO_READING]
    least = min(readings)
    greatest = max(readings)
    return [0, least, start + values.index(least), greatest, start + values.index(greatest)]


def seek_from(series, start, bound):
    if start > series.place_count():
        return [NO_SUCH_PLACE]
    for place in range(start, series.place_count()):
        value = series.standing[place]
        if value != GAP and value >= bound:
            return [0, place]
    return [NO_READING]


def told_piece(values):
    if GAP in values:
        return [0, 0]
    return [1, sum(values)]


def coarse_pieces(series, length):
    numbers = []
    for piece in range(series.place_count() // length):
        numbers.extend(told_piece(series.standing[piece * length:(piece + 1) * length]))
    return [0] + told_row(numbers)


def history_of_place(series, place):
    if not series.has_place(place):
        return [NO_SUCH_PLACE]
    return [0] + told_row(told_values(series.values_up_to(place, series.correction_count())))


def state_of_all(all_series):
    counts = [0]
    for series in all_series:
        counts.append(series.place_count())
        counts.append(series.correction_count())
    return counts
