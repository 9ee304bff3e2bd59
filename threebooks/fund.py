"""What a line of calls keeps: the accounts, the entries and the groups of one fund."""

# The left and the right book of each pair of books.
PAIR_BOOKS = ((0, 1), (0, 2), (1, 2))

MOST_ENTRIES = 200
MOST_GROUPS = 300

# Neither an entry's day nor today lies behind it.
LAST_DAY = 100000

NO_GROUP = -1


def gap_of(left, right):
    return sum([entry.amount for entry in left]) - sum([entry.amount for entry in right])


class Account:
    def __init__(self, window, tolerance, size):
        self.window = window
        self.tolerance = tolerance
        self.size = size


class Entry:
    def __init__(self, place, book, account, day, amount, reference):
        self.place = place
        self.book = book
        self.account = account
        self.day = day
        self.amount = amount
        self.reference = reference
        # A place is never given again, so an entry that is taken away stays in its list.
        self.there = True
        # For each pair of books, the place of the group that holds.
        self.in_groups = [NO_GROUP, NO_GROUP, NO_GROUP]

    def is_open(self, pair):
        return self.there and self.in_groups[pair] == NO_GROUP


class Group:
    def __init__(self, pair, account, left, right):
        self.pair = pair
        self.account = account
        self.left = left
        self.right = right
        # A group that is undone keeps its place, so it stays in its list.
        self.holds = True


class Fund:
    def __init__(self):
        self.begin()

    def begin(self):
        self.today = 0
        self.accounts = {}
        self.entries = []
        self.groups = []

    def entry_at(self, place):
        if 0 <= place < len(self.entries) and self.entries[place].there:
            return self.entries[place]
        return None

    def group_at(self, place):
        if 0 <= place < len(self.groups) and self.groups[place].holds:
            return self.groups[place]
        return None

    def open_left(self, pair, account):
        return self.open_in_book(pair, account, PAIR_BOOKS[pair][0])

    def open_right(self, pair, account):
        return self.open_in_book(pair, account, PAIR_BOOKS[pair][1])

    def open_in_book(self, pair, account, book):
        found = [
            entry for entry in self.entries
            if entry.book == book and entry.account == account and entry.is_open(pair)
        ]
        # Sorting leaves entries of one day as they came.
        return sorted(found, key=lambda entry: entry.day)

    def how_many_open(self, pair, account):
        return len(self.open_left(pair, account)) + len(self.open_right(pair, account))

    def balance(self, book, account):
        return sum([
            entry.amount for entry in self.entries
            if entry.book == book and entry.account == account and entry.there
        ])

    def groups_that_hold(self, pair, account):
        return [
            group for group in self.groups
            if group.pair == pair and group.account == account and group.holds
        ]

    def has_room_for_entry(self):
        return len(self.entries) < MOST_ENTRIES

    def has_room_for_groups(self, more):
        return len(self.groups) + more <= MOST_GROUPS

    def add_entry(self, book, account, day, amount, reference):
        entry = Entry(len(self.entries), book, account, day, amount, reference)
        self.entries.append(entry)
        return entry

    def add_group(self, pair, left, right):
        place = len(self.groups)
        self.groups.append(Group(pair, left[0].account, left, right))
        for entry in left + right:
            entry.in_groups[pair] = place
        return place

    def undo_group(self, group):
        group.holds = False
        for entry in group.left + group.right:
            entry.in_groups[group.pair] = NO_GROUP
