"""What the tests share: writing a line of calls, reading its answers, and a plain search over all plans."""

import itertools

from threebooks.books import answers

NUMBERS = {
    "clear": 0, "account": 1, "entry": 2, "take": 3, "pair": 4,
    "unpair": 5, "byref": 6, "run": 7, "best": 8, "mirror": 9,
    "tick": 10, "entryat": 11, "group": 12, "breaks": 13, "balance": 14,
    "gap": 15, "aged": 16, "explain": 17, "counts": 18,
}
SEARCHES = ("run", "best", "explain")
PAIR_BOOKS = ((0, 1), (0, 2), (1, 2))
LOWEST = -(10 ** 18)
HIGHEST = 10 ** 18


def line(calls):
    """The one list of whole numbers that says these calls, each a tuple of its name, its numbers and its row."""
    numbers = []
    for call in calls:
        numbers.append(NUMBERS[call[0]])
        for part in call[1:]:
            if isinstance(part, list):
                numbers.append(len(part))
                numbers.extend(part)
            else:
                numbers.append(part)
    return numbers


def split(told):
    """The answers of a line, one list each."""
    found = []
    at = 0
    while at < len(told):
        end = at + 1 + told[at]
        found.append(told[at + 1:end])
        at = end
    return found


def ask(calls):
    """The answers to these calls, one list each."""
    if not 1 <= len(calls) <= 400 or len([call for call in calls if call[0] in SEARCHES]) > 20:
        raise AssertionError("that is no line")
    found = split(answers(line(calls)))
    if len(found) != len(calls):
        raise AssertionError(f"{len(calls)} calls, {len(found)} answers")
    return found


def last(calls):
    """The answer to the last of these calls."""
    return ask(calls)[-1]


def entries(book, a, rows):
    """Entry calls for rows of (day, amount) or (day, amount, reference)."""
    return [("entry", book, a, row[0], row[1], row[2] if len(row) > 2 else 0) for row in rows]


def small_fund(a, window, tolerance, size, lefts, rights):
    """An account with entries of book 0 and then of book 1."""
    return [("account", a, window, tolerance, size)] + entries(0, a, lefts) + entries(1, a, rights)


def nearly_full(many):
    """A fund with 300 groups less this many.

    Its 198 entries are 66 alike in each book: entry n of one is in a group with n + 66 and with n + 132. Groups 132
    to 197 are those of pair 2.
    """
    rows = [(0, 1 + n, 1 + n) for n in range(66)]
    calls = [("account", 0, 0, 0, 1)] + entries(0, 0, rows) + entries(1, 0, rows) + entries(2, 0, rows)
    calls += [("byref", p, 0) for p in range(3)]
    calls += [("unpair", group) for group in range(102 - many)]
    return calls + [("byref", 0, 0), ("byref", 1, 0)]


def probes():
    """Calls whose answers tell apart what the calls before them may have left behind."""
    places = ((0, 1), (0, 2), (1, 2), (0, 3), (1, 3), (2, 3))
    asked = [("counts",)]
    asked += [("entryat", place) for place in range(12)]
    asked += [("group", group) for group in range(8)]
    asked += [(name, p, a) for name in ("breaks", "gap", "explain") for p in range(3) for a in range(2)]
    asked += [("aged", 0, a, 0) for a in range(2)]
    asked += [("pair", p, list(two)) for p in range(3) for two in places]
    asked += [("entry", 0, a, 0, 1, 0) for a in range(4)]
    asked += [("unpair", group) for group in range(4)]
    asked += [("take", place) for place in range(8)]
    asked += [("tick", 1), ("counts",)]
    return asked


def changes_nothing(case, calls, call):
    """Check that behind the calls this call leaves all as it was, and give back its answer."""
    with case.subTest(call=call):
        found = ask(calls + [call] + probes())
        case.assertEqual(found[len(calls) + 1:], ask(calls + probes())[len(calls):])
        return found[len(calls)]


def refused(case, calls, call, refusal):
    """Check that behind the calls this call is refused so, and that all goes on as if it had not been said."""
    case.assertEqual(changes_nothing(case, calls, call), [refusal], call)


def explanation(told):
    """The left and the right places of each group that an answer of explain tells of."""
    groups, at = [], 1
    while at < len(told):
        middle = at + 2 + told[at]
        end = middle + told[at + 1]
        groups.append((told[at + 2:middle], told[middle:end]))
        at = end
    if len(groups) != told[0]:
        raise AssertionError(f"{told} tells of {len(groups)} groups")
    return groups


def plans_by_labels(left_many, right_many):
    """Every plan's row of labels, whatever fits: groups are numbered by their first left entries."""
    for left in itertools.product(range(left_many + 1), repeat=left_many):
        firsts = [label for at, label in enumerate(left) if label and label not in left[:at]]
        if firsts != list(range(1, len(firsts) + 1)):
            continue
        for right in itertools.product(range(len(firsts) + 1), repeat=right_many):
            if set(right) | {0} == set(firsts) | {0}:
                yield left, right


def plain_plan_rank(lefts, rights, window, tolerance, size, left, right):
    """How good a plan is (less is better), or None if one of its groups doesn't fit."""
    gaps = 0
    groups = max(left, default=0)
    for number in range(1, groups + 1):
        some = [entry for entry, label in zip(lefts, left) if label == number]
        others = [entry for entry, label in zip(rights, right) if label == number]
        days = [entry[0] for entry in some + others]
        gap = abs(sum(entry[1] for entry in some) - sum(entry[1] for entry in others))
        if max(len(some), len(others)) > size or max(days) - min(days) > window or gap > tolerance:
            return None
        gaps += gap
    return (left + right).count(0), -groups, gaps, left + right


def plain_best(lefts, rights, window, tolerance, size):
    """The best rank by a look at every plan, for (day, amount) rows that stand in their order."""
    ranks = []
    for left, right in plans_by_labels(len(lefts), len(rights)):
        rank = plain_plan_rank(lefts, rights, window, tolerance, size, left, right)
        if rank is not None:
            ranks.append(rank)
    return min(ranks)


class PlainBooks:
    """A second telling of the document, over dicts and with no thought of speed, to hold the program against."""

    def __init__(self):
        self.do_clear()

    def answer(self, call):
        return getattr(self, "do_" + call[0])(*call[1:])

    def do_clear(self):
        self.today, self.accounts, self.entries, self.groups = 0, {}, [], []
        return [0]

    def do_account(self, a, window, tolerance, size):
        if a not in range(4) or window not in range(101):
            return [-1]
        if tolerance not in range(1000001) or size not in (1, 2, 3):
            return [-1]
        self.accounts[a] = (window, tolerance, size)
        return [0]

    def do_entry(self, book, a, day, amount, reference):
        if a not in self.accounts:
            return [-2]
        if book not in range(3) or day not in range(100001) or reference not in range(1000001):
            return [-1]
        if amount == 0 or abs(amount) > 10 ** 12:
            return [-1]
        if len(self.entries) >= 200:
            return [-3]
        self.entries.append({"book": book, "a": a, "day": day, "amount": amount, "ref": reference, "there": True})
        return [len(self.entries) - 1]

    def is_there(self, place):
        return place in range(len(self.entries)) and self.entries[place]["there"]

    def held(self, place, pairs):
        return any(g["holds"] and g["p"] in pairs and place in g["left"] + g["right"] for g in self.groups)

    def do_take(self, place):
        if not self.is_there(place):
            return [-4]
        if self.held(place, (0, 1, 2)):
            return [-5]
        self.entries[place]["there"] = False
        return [0]

    def amounts(self, places):
        return sum(self.entries[place]["amount"] for place in places)

    def group(self, p, left, right):
        self.groups.append({"p": p, "left": left, "right": right, "holds": True})
        return len(self.groups) - 1

    def do_pair(self, p, places):
        if p not in range(3) or (places and min(places) < 0):
            return [-1]
        if not places or len(set(places)) != len(places) or not all(map(self.is_there, places)):
            return [-5]
        if len({self.entries[place]["a"] for place in places}) > 1:
            return [-5]
        if any(self.entries[place]["book"] not in PAIR_BOOKS[p] or self.held(place, (p,)) for place in places):
            return [-5]
        sides = [[place for place in places if self.entries[place]["book"] == book] for book in PAIR_BOOKS[p]]
        if [] in sides:
            return [-6]
        if abs(self.amounts(sides[0]) - self.amounts(sides[1])) > self.accounts[self.entries[places[0]]["a"]][1]:
            return [-7]
        if len(self.groups) == 300:
            return [-3]
        return [self.group(p, sides[0], sides[1])]

    def do_unpair(self, group):
        if group not in range(len(self.groups)) or not self.groups[group]["holds"]:
            return [-4]
        self.groups[group]["holds"] = False
        return [len(self.groups[group]["left"] + self.groups[group]["right"])]

    def still(self, p, a, side):
        places = [place for place in range(len(self.entries)) if self.is_there(place) and not self.held(place, (p,))]
        places = [x for x in places if self.entries[x]["a"] == a and self.entries[x]["book"] == PAIR_BOOKS[p][side]]
        return sorted(places, key=lambda place: (self.entries[place]["day"], place))

    def refused(self, p, a):
        return [-2] if a not in self.accounts else [-1] if p not in range(3) else None

    def do_byref(self, p, a):
        if self.refused(p, a):
            return self.refused(p, a)
        free, found = self.still(p, a, 1), []
        for left in self.still(p, a, 0):
            wanted = [self.entries[left]["ref"], self.entries[left]["amount"]]
            same = [x for x in free if [self.entries[x]["ref"], self.entries[x]["amount"]] == wanted]
            if wanted[0] and same:
                found.append((left, same[0]))
                free = [x for x in free if x != same[0]]
        if len(self.groups) + len(found) > 300:
            return [-3]
        for left, right in found:
            self.group(p, [left], [right])
        return [len(found)]

    def explained(self, p, a):
        if self.refused(p, a):
            return self.refused(p, a), None
        sides = [self.still(p, a, 0), self.still(p, a, 1)]
        if max(map(len, sides)) > 5:
            return [-8], None
        rows = [[(self.entries[x]["day"], self.entries[x]["amount"]) for x in side] for side in sides]
        return None, (sides, plain_best(rows[0], rows[1], *self.accounts[a]))

    def do_best(self, p, a):
        refusal, found = self.explained(p, a)
        return refusal or [found[1][0], -found[1][1], found[1][2]]

    def do_run(self, p, a):
        refusal, found = self.explained(p, a)
        if refusal:
            return refusal
        (lefts, rights), (over, groups, _, labels) = found
        if len(self.groups) - groups > 300:
            return [-3]
        for number in range(1, 1 - groups):
            left = [place for place, label in zip(lefts, labels) if label == number]
            self.group(p, left, [place for place, label in zip(rights, labels[len(lefts):]) if label == number])
        return [-groups, over]

    def do_mirror(self, p, place):
        if p not in range(3):
            return [-1]
        if not self.is_there(place):
            return [-4]
        entry = self.entries[place]
        if entry["book"] not in PAIR_BOOKS[p] or self.held(place, (p,)):
            return [-5]
        if len(self.entries) == 200 or len(self.groups) == 300:
            return [-3]
        other = [book for book in PAIR_BOOKS[p] if book != entry["book"]][0]
        self.entries.append(dict(entry, book=other))
        sides = [place, len(self.entries) - 1]
        if other < entry["book"]:
            sides.reverse()
        return [len(self.entries) - 1, self.group(p, sides[:1], sides[1:])]

    def do_tick(self, n):
        if n not in range(1, 1001):
            return [-1]
        if self.today + n > 100000:
            return [-3]
        self.today += n
        return [self.today]

    def do_entryat(self, place):
        if not self.is_there(place):
            return [-4]
        told = [self.entries[place][name] for name in ("book", "a", "day", "amount", "ref")]
        for p in range(3):
            told.append(-1)
            for number, group in enumerate(self.groups):
                if group["holds"] and group["p"] == p and place in group["left"] + group["right"]:
                    told[-1] = number
        return told

    def do_group(self, place):
        if place not in range(len(self.groups)) or not self.groups[place]["holds"]:
            return [-4]
        group = self.groups[place]
        left, right = group["left"], group["right"]
        gap = self.amounts(left) - self.amounts(right)
        return [group["p"], self.entries[left[0]]["a"], gap, len(left), *left, *right]

    def do_breaks(self, p, a):
        if self.refused(p, a):
            return self.refused(p, a)
        left, right = self.still(p, a, 0), self.still(p, a, 1)
        return [len(left), len(right), *left, *right]

    def do_balance(self, book, a):
        if self.refused(book, a):
            return self.refused(book, a)
        return [0, sum(x["amount"] for x in self.entries if x["there"] and (x["book"], x["a"]) == (book, a))]

    def do_gap(self, p, a):
        if self.refused(p, a):
            return self.refused(p, a)
        balances = [self.do_balance(book, a)[1] for book in PAIR_BOOKS[p]]
        still = self.amounts(self.still(p, a, 0)) - self.amounts(self.still(p, a, 1))
        groups = [self.do_group(place) for place in range(len(self.groups))]
        return [0, balances[0] - balances[1], still, sum(group[2] for group in groups if group[:2] == [p, a])]

    def do_aged(self, p, a, n):
        if self.refused(p, a):
            return self.refused(p, a)
        if n not in range(100001):
            return [-1]
        places = self.still(p, a, 0) + self.still(p, a, 1)
        old = [place for place in places if self.today - self.entries[place]["day"] >= n]
        return [len(old), *old]

    def do_explain(self, p, a):
        refusal, found = self.explained(p, a)
        if refusal:
            return refusal
        (lefts, rights), (_, groups, _, labels) = found
        told = [-groups]
        for number in range(1, 1 - groups):
            left = [place for place, label in zip(lefts, labels) if label == number]
            right = [place for place, label in zip(rights, labels[len(lefts):]) if label == number]
            told += [len(left), len(right), *left, *right]
        return told

    def do_counts(self):
        there = len([entry for entry in self.entries if entry["there"]])
        holding = len([group for group in self.groups if group["holds"]])
        return [self.today, len(self.entries), there, len(self.groups), holding]
