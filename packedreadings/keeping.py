"""What is kept of one series."""


class Series:
    """What was added, the corrections in order, and what stands now; a gap is kept as the number GAP."""

    def __init__(self):
        self.added = []
        self.corrections = []
        self.standing = []

    def make_empty(self):
        self.added = []
        self.corrections = []
        self.standing = []

    def place_count(self):
        return len(self.added)

    def has_place(self, place):
        return place < len(self.added)

    def correction_count(self):
        return len(self.corrections)

    def put_behind(self, row):
        self.added.extend(row)
        self.standing.extend(row)

    def correct(self, place, value):
        self.corrections.append((place, value))
        self.standing[place] = value

    def take_over(self, other):
        """Become like another series; the lists are copied, so that later changes stay apart."""
        self.added = list(other.added)
        self.corrections = list(other.corrections)
        self.standing = list(other.standing)

    def cut_from(self, start):
        self.added = self.added[:start]
        self.corrections = [correction for correction in self.corrections if correction[0] < start]
        self.standing = self.standing[:start]

    def values_up_to(self, place, done):
        """What was added at a place, then what each correction of it put there, of the first corrections, that many."""
        return [self.added[place]] + [put[1] for put in self.corrections[:done] if put[0] == place]

    def value_as_of(self, place, done):
        """What stands at a place with only the first corrections done, that many."""
        values = self.values_up_to(place, done)
        return values[len(values) - 1]
