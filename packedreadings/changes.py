"""The calls that change one series: clear, add, fix and trim."""

from packedreadings.limits import FULL, MOST_CORRECTIONS, MOST_PLACES, NO_SUCH_PLACE, STANDS_ALREADY


def clear_series(series):
    series.make_empty()
    return [0]


def add_row(series, row):
    if series.place_count() + len(row) > MOST_PLACES:
        return [FULL]
    series.put_behind(row)
    return [0, series.place_count()]


def fix_place(series, place, value):
    if not series.has_place(place):
        return [NO_SUCH_PLACE]
    if series.standing[place] == value:
        return [STANDS_ALREADY]
    if series.correction_count() == MOST_CORRECTIONS:
        return [FULL]
    series.correct(place, value)
    return [0, series.correction_count()]


def trim_series(series, start):
    if start > series.place_count():
        return [NO_SUCH_PLACE]
    series.cut_from(start)
    return [0]
