"""A reader: walks and seeks by the rows alone, without the tree."""

from upwords.errors import NoPlace
from upwords.kinds import is_number_below


class Reader:

    def __init__(self, rows, step):
        self.labels = rows[0]
        self.lasts = rows[1]
        self.leaves = rows[2]
        # Below 1 there would be no rows to keep counts at.
        self.step = max(step, 1)
        self.inner_kept = [{}]
        self.lasts_kept = [0]
        for row in range(self.step, len(self.labels) + 1, self.step):
            inner = self.inner_ahead(row)
            lasts = self.lasts_ahead(row)
            self.inner_kept.append(inner)
            self.lasts_kept.append(lasts)

    def letter_at(self, row):
        self.refuse_no_row(row)
        return self.labels[row]

    def beneath_at(self, row):
        self.refuse_no_row(row)
        if self.leaves[row]:
            return None
        return self.beneath_all((row, row + 1), self.labels[row])

    def above_at(self, row):
        self.refuse_no_row(row)
        if row == 0:
            return None
        # Row 0 is a last too, but ends no group.
        left = self.lasts_ahead(row) - 1
        totals = self.inner_ahead(len(self.labels))
        for letter in sorted(totals):
            if left < totals[letter]:
                break
            left -= totals[letter]
        return self.row_of_inner(letter, left)

    def deep_at(self, row):
        return len(self.word_at(row)) - 1

    def word_at(self, row):
        letters = [self.letter_at(row)]
        upper = self.above_at(row)
        while upper is not None:
            letters.append(self.labels[upper])
            upper = self.above_at(upper)
        return "".join(letters)

    def seek(self, word):
        return (len(self.rows_read(word)), self.steps_to(word))

    def rows_read(self, word):
        # Where the seeking ended early this stretch has no rows.
        stretch = self.steps_to(word)[-1]
        return [row for row in range(stretch[0], stretch[1]) if self.labels[row].startswith(word[:1])]

    def steps_to(self, word):
        steps = [(0, len(self.labels))]
        for at in range(len(word) - 1, 0, -1):
            stretch = self.beneath_all(steps[-1], word[at])
            steps.append(stretch)
            if stretch[0] == stretch[1]:
                break
        return steps

    def beneath_all(self, stretch, letter):
        totals = self.inner_ahead(len(self.labels))
        lesser = sum([totals[other] for other in totals if other < letter])
        # Groups stand by the letters above them and then by the rows above
        # them, so those beneath such rows of a stretch stand together.
        first = lesser + self.inner_ahead(stretch[0]).get(letter, 0)
        behind = lesser + self.inner_ahead(stretch[1]).get(letter, 0)
        return (self.row_of_last(first) + 1, self.row_of_last(behind) + 1)

    def inner_ahead(self, row):
        mark = self.mark_near(row)
        counts = dict(self.inner_kept[mark])
        for other in range(mark * self.step, row):
            if not self.leaves[other]:
                letter = self.labels[other]
                counts[letter] = counts.get(letter, 0) + 1
        return counts

    def lasts_ahead(self, row):
        mark = self.mark_near(row)
        return self.lasts_kept[mark] + self.lasts[mark * self.step:row].count(True)

    def mark_near(self, row):
        # While the counts are being taken, those at the row itself are not there yet.
        return min(row // self.step, len(self.lasts_kept) - 1)

    def row_of_inner(self, letter, so):
        kept = [counts.get(letter, 0) for counts in self.inner_kept]
        return self.row_by(kept, so, lambda row: self.labels[row] == letter and not self.leaves[row])

    def row_of_last(self, so):
        return self.row_by(self.lasts_kept, so, lambda row: self.lasts[row])

    def row_by(self, kept, so, is_counted):
        mark = max([k for k, ahead in enumerate(kept) if ahead <= so])
        row = mark * self.step
        left = so - kept[mark]
        while left > 0 or not is_counted(row):
            if is_counted(row):
                left -= 1
            row += 1
        return row

    def refuse_no_row(self, row):
        if not is_number_below(row, len(self.labels)):
            raise NoPlace("there is no such row")
