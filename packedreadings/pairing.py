"""The calls on two series: copy, differ and fill."""

from packedreadings.gaps import GAP
from packedreadings.limits import FULL, MOST_CORRECTIONS, SAME_SERIES


def copy_series(all_series, source, target):
    if source == target:
        return [SAME_SERIES]
    all_series[target].take_over(all_series[source])
    return [0]


def differ_at(series, other, place):
    if not series.has_place(place) or not other.has_place(place):
        return True
    return series.standing[place] != other.standing[place]


def first_difference(series, other, start):
    for place in range(start, max(series.place_count(), other.place_count())):
        if differ_at(series, other, place):
            return [0, place]
    return [0, -1]


def is_to_fill(series, other, place):
    return series.standing[place] == GAP and other.standing[place] != GAP


def fill_gaps(series, other):
    shared = min(series.place_count(), other.place_count())
    places = [place for place in range(shared) if is_to_fill(series, other, place)]
    if series.correction_count() + len(places) > MOST_CORRECTIONS:
        return [FULL]
    for place in places:
        series.correct(place, other.standing[place])
    return [0, len(places)]
