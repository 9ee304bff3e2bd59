"""The least explanation: the best plan for the open entries of a pair and an account."""

from threebooks.fund import gap_of

# A plan of 5 and 5 entries has at most 5 groups, so three bits hold a label.
LABEL_BITS = 3


class Fit:
    def __init__(self, left, right, marks):
        self.left = left
        self.right = right
        self.gap = abs(gap_of(left, right))
        self.many = len(left) + len(right)
        self.marks = marks


class Plan:
    def __init__(self, fits, rank, marks):
        self.fits = fits
        # Less is better, so entries in groups and groups are counted below 0; then come gaps and row of labels.
        self.rank = rank
        self.marks = marks

    def grouped(self):
        return -self.rank[0]

    def gaps(self):
        return self.rank[2]


def choices(entries, size):
    found = [[]]
    for entry in entries:
        found = found + [chosen + [entry] for chosen in found if len(chosen) < size]
    return found[1:]


def do_fit(left, right, account):
    days = [entry.day for entry in left + right]
    if max(days) - min(days) > account.window:
        return False
    return abs(gap_of(left, right)) <= account.tolerance


# A row of labels is kept as one whole number with the first label on top, so that the lesser row is the lesser
# number. An entry's mark is the lowest bit of its label: a sum of marks is a set of entries and, as a row, labels
# each of them 1.
def marks_for(entries):
    marks = {}
    for position, entry in enumerate(reversed(entries)):
        marks[entry.place] = 1 << (LABEL_BITS * position)
    return marks


def rank_behind(fit, rest):
    rank = rest.rank
    # Behind the fit the rest's groups are numbered one higher: each label of their entries grows by 1.
    row = fit.marks + rank[3] + rest.marks
    return (rank[0] - fit.many, rank[1] - 1, rank[2] + fit.gap, row)


class Search:
    def __init__(self, lefts, rights, account):
        self.marks = marks_for(lefts + rights)
        self.lefts = lefts
        self.known = {}
        # Kept by the place of the first left entry, as the search goes through these.
        self.fits_from = {}
        for entry in lefts:
            self.fits_from[entry.place] = []
        right_choices = choices(rights, account.size)
        for left in choices(lefts, account.size):
            for right in right_choices:
                if do_fit(left, right, account):
                    self.fits_from[left[0].place].append(Fit(left, right, self.sum_of_marks(left + right)))

    def sum_of_marks(self, entries):
        return sum([self.marks[entry.place] for entry in entries])

    # What is free is a sum of marks. It comes round again by many ways, so its best plan is kept.
    def best_of(self, free):
        if free not in self.known:
            self.known[free] = self.best_by_first(free)
        return self.known[free]

    # Whatever becomes of the first left entry, the best plan of the rest makes the best of all: numbers and gaps
    # add up, and labels that all grow by 1 stay in their order.
    def best_by_first(self, free):
        first = self.first_free(free)
        if first is None:
            return Plan([], (0, 0, 0, 0), 0)
        best = self.best_of(free - self.marks[first.place])
        for fit in self.fits_from[first.place]:
            if fit.marks & free == fit.marks:
                rest = self.best_of(free - fit.marks)
                rank = rank_behind(fit, rest)
                if rank < best.rank:
                    best = Plan([fit] + rest.fits, rank, fit.marks + rest.marks)
        return best

    def first_free(self, free):
        for entry in self.lefts:
            if self.marks[entry.place] & free:
                return entry
        return None


def least_explanation(lefts, rights, account):
    search = Search(lefts, rights, account)
    return search.best_of(search.sum_of_marks(lefts + rights))


def plan_for(fund, pair, account):
    lefts = fund.open_left(pair, account)
    rights = fund.open_right(pair, account)
    return least_explanation(lefts, rights, fund.accounts[account])
