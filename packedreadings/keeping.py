"""What is kept of one series."""


class Series:
    """What was added, the corrections in order, and what stands now; a gap is kept as the number GAP."""

    def __init__(self):
        self.added = []
        self.corrections = []
        self.standing = []

    def make_empty(self):
        self.added = []
        self.corrections = []
        self.standing = []

    def place_count(self):
        return len(self.added)

    def has_place(self, place):
        return place < len(self.added)

    def correction_count(self):
        return len(self.corrections)

    def put_behind(self, row):
        self.added.extend(row)
        self.standing.extend(row)

    def correct(self, place, value):
        self.corrections.append((place, value))
        self.standing[place] = value

    def value_as_of(self, place, done):
        """What stands at a place with only the first corrections done, that many."""
        value = self.added[place]
        for correction in self.corrections[:done]:
            if correction[0] == place:
                value = correction[1]
        return value
