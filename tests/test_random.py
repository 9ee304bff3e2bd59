"""Whole lines of chance calls, held against the second telling of the document in the helper."""

import random
import unittest

from tests.helper import HIGHEST, LOWEST, PlainBooks, ask

NAMES = ["entry"] * 10 + ["account", "take", "mirror", "byref"] + ["pair"] * 5 + ["unpair"] * 4


def chance_number(chance, least, most):
    """Mostly a number of the range, now and then one beside it or an end of what may be handed in."""
    if chance.random() < 0.02:
        return chance.choice((least - 1, most + 1, LOWEST, HIGHEST))
    return chance.randint(least, most)


def chance_places(chance, books, p, a):
    """Places for pair: mostly some open left and some open right ones, else any."""
    if p in range(3) and a in books.accounts and chance.random() < 0.7:
        lefts, rights = books.still(p, a, 0), books.still(p, a, 1)
        places = chance.sample(lefts, min(len(lefts), chance.randint(1, 3)))
        places += chance.sample(rights, min(len(rights), chance.randint(1, 3)))
        chance.shuffle(places)
        return places
    return [chance_number(chance, 0, len(books.entries)) for _ in range(chance.randint(0, 4))]


def chance_call(chance, books, name):
    p, a = chance_number(chance, 0, 2), chance_number(chance, 0, 1)
    if name == "account":
        return (name, a, chance_number(chance, 0, 4), chance.choice((0, 1, 5)), chance_number(chance, 1, 3))
    if name == "entry":
        amount = chance.choice((-2, 1, 2, 3, 4, 5, chance_number(chance, -3, 3)))
        return (name, chance_number(chance, 0, 2), a, chance.randint(0, 5), amount, chance.randint(0, 2))
    if name == "pair":
        return (name, p, chance_places(chance, books, p, a))
    if name == "mirror":
        return (name, p, chance_number(chance, 0, len(books.entries)))
    if name == "take":
        return (name, chance_number(chance, 0, len(books.entries)))
    if name == "unpair":
        holding = [place for place, group in enumerate(books.groups) if group["holds"]]
        return (name, chance.choice(holding + [chance_number(chance, 0, len(books.groups))]))
    return (name,) if name == "clear" else (name, p, a)


def chance_line(chance):
    """Calls and what the second telling answers to them."""
    books = PlainBooks()
    calls = [("account", a, chance.randint(0, 4), chance.choice((0, 1, 5)), chance.randint(1, 3)) for a in (0, 1)]
    told = [books.answer(call) for call in calls]
    searches = 0
    for _ in range(chance.randint(20, 80)):
        name = "clear" if chance.random() < 0.003 else chance.choice(NAMES + ["run", "best"] * (searches < 20))
        searches += name in ("run", "best")
        calls.append(chance_call(chance, books, name))
        told.append(books.answer(calls[-1]))
    return calls, told


class RandomLineTest(unittest.TestCase):
    def test_lines_of_chance(self):
        chance = random.Random(2026)
        for _ in range(300):
            calls, told = chance_line(chance)
            found = ask(calls)
            if found != told:
                at = [one == other for one, other in zip(found, told)].index(False)
                self.fail(f"{calls[:at + 1]}: {found[at]}, not {told[at]}")


if __name__ == "__main__":
    unittest.main()
