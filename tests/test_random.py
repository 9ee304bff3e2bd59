"""Whole lines of chance calls: held against the second telling of the document, and each moment against itself."""

import random
import unittest

from tests.helper import HIGHEST, LOWEST, NUMBERS, SEARCHES, PlainBooks, ask, explanation

CHANGES = ["entry"] * 10 + ["account", "take", "mirror", "byref"] + ["pair"] * 5 + ["unpair"] * 4 + ["tick"] * 2
ASKS = ["entryat", "group"] * 2 + ["breaks", "balance", "gap", "aged", "counts"]


def chance_number(chance, least, most):
    """Mostly a number of the range, now and then one beside it or an end of what may be handed in."""
    if chance.random() < 0.02:
        return chance.choice((least - 1, most + 1, LOWEST, HIGHEST))
    return chance.randint(least, most)


def chance_places(chance, books, p, a):
    """Places for pair: mostly some open left and some open right ones, else any."""
    if p in range(3) and a in books.accounts and chance.random() < 0.7:
        lefts, rights = books.still(p, a, 0), books.still(p, a, 1)
        places = chance.sample(lefts, min(len(lefts), chance.randint(1, 3)))
        places += chance.sample(rights, min(len(rights), chance.randint(1, 3)))
        chance.shuffle(places)
        return places
    return [chance_number(chance, 0, len(books.entries)) for _ in range(chance.randint(0, 4))]


def chance_call(chance, books, name):
    p, a = chance_number(chance, 0, 2), chance_number(chance, 0, 1)
    if name == "account":
        return (name, a, chance_number(chance, 0, 4), chance.choice((0, 1, 5)), chance_number(chance, 1, 3))
    if name == "entry":
        amount = chance.choice((-2, 1, 2, 3, 4, 5, chance_number(chance, -3, 3)))
        return (name, chance_number(chance, 0, 2), a, chance.randint(0, 5), amount, chance.randint(0, 2))
    if name == "pair":
        return (name, p, chance_places(chance, books, p, a))
    if name == "mirror":
        return (name, p, chance_number(chance, 0, len(books.entries)))
    if name in ("take", "entryat"):
        return (name, chance_number(chance, 0, len(books.entries)))
    if name == "tick":
        return (name, chance.choice((1, 1, 2, chance_number(chance, 1, 1000))))
    if name == "aged":
        return (name, p, a, chance.choice((0, 1, 2, 3, chance_number(chance, 0, 100000))))
    if name in ("unpair", "group"):
        holding = [place for place, group in enumerate(books.groups) if group["holds"]]
        return (name, chance.choice(holding + [chance_number(chance, 0, len(books.groups))]))
    return (name,) if name in ("clear", "counts") else (name, p, a)


def chance_line(chance, shortest=20, longest=80, most_searches=20):
    """Calls and what the second telling answers to them."""
    books = PlainBooks()
    calls = [("account", a, chance.randint(0, 4), chance.choice((0, 1, 5)), chance.randint(1, 3)) for a in (0, 1)]
    told = [books.answer(call) for call in calls]
    searches = 0
    for _ in range(chance.randint(shortest, longest)):
        names = CHANGES + ASKS + list(SEARCHES) * (searches < most_searches)
        name = "clear" if chance.random() < 0.003 else chance.choice(names)
        searches += name in SEARCHES
        calls.append(chance_call(chance, books, name))
        told.append(books.answer(calls[-1]))
    return calls, told


class RandomLineTest(unittest.TestCase):
    def compare(self, calls, told):
        found = ask(calls)
        if found != told:
            at = [one == other for one, other in zip(found, told)].index(False)
            self.fail(f"{calls[:at + 1]}: {found[at]}, not {told[at]}")

    def test_lines_of_chance(self):
        chance = random.Random(2026)
        answered = set()
        for _ in range(300):
            calls, told = chance_line(chance)
            self.compare(calls, told)
            answered |= {call[0] for call, numbers in zip(calls, told) if numbers[0] >= 0}
        self.assertEqual(answered, set(NUMBERS))

    def test_long_lines_of_chance(self):
        chance = random.Random(2027)
        for _ in range(10):
            self.compare(*chance_line(chance, 398, 398))


class BetweenTest(unittest.TestCase):
    def test_asks_between_the_calls_change_no_answer(self):
        chance = random.Random(2028)
        for _ in range(60):
            calls, told = chance_line(chance, 20, 80, 8)
            books, mixed, places, searches = PlainBooks(), [], [], 0
            for call in calls:
                books.answer(call)
                places.append(len(mixed))
                mixed.append(call)
                for _ in range(3):
                    name = chance.choice(ASKS + ["best", "explain"] * (searches < 12))
                    searches += name in SEARCHES
                    mixed.append(chance_call(chance, books, name))
            found = ask(mixed)
            self.assertEqual([found[place] for place in places], told, mixed)


class MomentTest(unittest.TestCase):
    """What holds at every moment of a line, asked behind each of its calls."""

    both = [(p, a) for p in range(3) for a in range(2)]

    def answers_to(self, calls, name):
        """What a call answers for every pair and account, or None where it is refused."""
        found = ask(calls + [(name, p, a) for p, a in self.both])[len(calls):]
        return [told if told[0] >= 0 else None for told in found]

    def moments(self, seed, many):
        chance = random.Random(seed)
        for _ in range(many):
            calls, _ = chance_line(chance, 20, 50, 8)
            for end in range(2, len(calls) + 1):
                yield calls[:end]

    def test_what_two_books_differ_by_is_open_or_was_let_pass(self):
        for calls in self.moments(7, 40):
            balances = ask(calls + [("balance", book, a) for a in range(2) for book in range(3)])[len(calls):]
            groups = ask(calls + [("group", place) for place in range(60)])[len(calls):]
            amounts = {place: told[3] for place, told in enumerate(self.entries(calls))}
            stills = self.answers_to(calls, "breaks")
            for (p, a), still, told in zip(self.both, stills, self.answers_to(calls, "gap")):
                if told is None:
                    continue
                left, right = balances[3 * a + (0, 0, 1)[p]], balances[3 * a + (1, 2, 2)[p]]
                middle = 2 + still[0]
                left_over = sum(amounts[x] for x in still[2:middle]) - sum(amounts[x] for x in still[middle:])
                passed = sum(group[2] for group in groups if group[:2] == [p, a])
                self.assertEqual(told, [0, left[1] - right[1], left_over, passed], calls)
                self.assertEqual(told[1], told[2] + told[3], calls)

    def entries(self, calls):
        """What entryat tells of each place, with zeros for one that is not there."""
        found = ask(calls + [("entryat", place) for place in range(60)])[len(calls):]
        return [told if len(told) > 1 else [0] * 8 for told in found]

    def test_entryat_group_breaks_and_counts_tell_the_same(self):
        for calls in self.moments(8, 20):
            told = ask(calls + [("entryat", place) for place in range(60)])[len(calls):]
            groups = ask(calls + [("group", place) for place in range(60)])[len(calls):]
            there = [place for place in range(60) if told[place] != [-4]]
            holding = [place for place in range(60) if groups[place] != [-4]]
            counts = ask(calls + [("counts",)])[-1]
            self.assertEqual(counts[2::2], [len(there), len(holding)], calls)
            self.assertTrue(counts[1] >= len(there) and counts[3] >= len(holding), calls)
            for place in holding:
                members = [x for x in there if told[x][5 + groups[place][0]] == place]
                self.assertEqual(sorted(groups[place][4:]), members, calls)
            for (p, a), still in zip(self.both, self.answers_to(calls, "breaks")):
                books = ((0, 1), (0, 2), (1, 2))[p]
                free = [x for x in there if told[x][1] == a and told[x][0] in books and told[x][5 + p] == -1]
                wanted = sorted(free, key=lambda x: (told[x][0], told[x][2], x))
                self.assertEqual(None if still is None else still[2:], None if still is None else wanted, calls)

    def test_best_explain_and_run_tell_of_the_same_plan(self):
        grouped = 0
        for calls in self.moments(9, 20):
            entries = self.entries(calls)
            made = ask(calls + [("counts",)])[-1][3]
            bests, explains = self.answers_to(calls, "best"), self.answers_to(calls, "explain")
            stills = self.answers_to(calls, "breaks")
            for at, (p, a) in enumerate(self.both):
                ran = calls + [("run", p, a), ("breaks", p, a)]
                if bests[at] is None:
                    self.assertTrue(explains[at] is None and ask(ran)[-2][0] < 0, calls)
                    continue
                plan = explanation(explains[at])
                grouped += len(plan)
                places = [place for left, right in plan for place in left + right]
                gaps = [sum(entries[x][3] for x in left) - sum(entries[x][3] for x in right) for left, right in plan]
                rest = [place for place in stills[at][2:] if place not in places]
                self.assertEqual(bests[at], [len(rest), len(plan), sum(map(abs, gaps))], calls)
                found = ask(ran + [("group", made + number) for number in range(len(plan) + 1)])[len(calls):]
                self.assertEqual(found[0], [len(plan), len(rest)], calls)
                self.assertEqual(found[1][2:], rest, calls)
                groups = [[p, a, gap, len(left), *left, *right] for gap, (left, right) in zip(gaps, plan)]
                self.assertEqual(found[2:], groups + [[-4]], calls)
        self.assertGreater(grouped, 100)


if __name__ == "__main__":
    unittest.main()
