"""The calls entryat, group, breaks, balance, gap and counts."""

import unittest

from tests.helper import HIGHEST, LOWEST, ask, changes_nothing, entries, last, nearly_full, refused, small_fund

# Entries 0 to 2 of book 0, 3 to 5 of book 1, 6 of book 2; 7 and 8 of account 1.
FUND = small_fund(0, 0, 10, 3, [(5, 100), (2, 70), (9, -5)], [(9, 98), (3, 60), (3, 15)])
FUND += entries(2, 0, [(4, 105, 8)]) + small_fund(1, 0, 0, 1, [(0, 40, 6)], [(0, 40, 6)])

# Entry 0 is in groups of pairs 0 and 1, entry 3 in groups of 0 and 2.
GROUPED = FUND + [("pair", 0, [0, 3]), ("pair", 1, [6, 0]), ("pair", 2, [3, 6])]


def wrong_pairs_and_accounts(case, name, more=()):
    """Check what every call refuses that names a pair or a book (0 to 2) and an account."""
    for a in (2, 3, -1, 4, LOWEST, HIGHEST):
        refused(case, GROUPED, (name, 0, a, *more), -2)
        refused(case, GROUPED, (name, 3, a, *more), -2)
    for p in (-1, 3, LOWEST, HIGHEST):
        refused(case, GROUPED, (name, p, 0, *more), -1)
        refused(case, GROUPED, (name, p, 1, *more), -1)
        refused(case, [], (name, p, 0, *more), -2)


class EntryatTest(unittest.TestCase):
    def test_tells_what_came(self):
        asked = [("entryat", place) for place in (0, 2, 4, 6, 8)]
        self.assertEqual(ask(FUND + asked)[-5:], [
            [0, 0, 5, 100, 0, -1, -1, -1],
            [0, 0, 9, -5, 0, -1, -1, -1],
            [1, 0, 3, 60, 0, -1, -1, -1],
            [2, 0, 4, 105, 8, -1, -1, -1],
            [1, 1, 0, 40, 6, -1, -1, -1],
        ])

    def test_the_ends_of_each_range(self):
        for given in ((0, 0, 0, -(10 ** 12), 0), (2, 3, 100000, 10 ** 12, 1000000), (1, 1, 1, -1, 1)):
            calls = [("account", given[1], 0, 0, 1), ("entry", *given), ("entryat", 0)]
            self.assertEqual(last(calls), [*given, -1, -1, -1])

    def test_in_groups_of_several_pairs(self):
        asked = [("entryat", place) for place in (0, 3, 6, 1)]
        self.assertEqual([told[5:] for told in ask(GROUPED + asked)[-4:]],
                         [[0, 1, -1], [0, -1, 2], [-1, 1, 2], [-1, -1, -1]])

    def test_in_a_group_that_was_undone(self):
        calls = GROUPED + [("unpair", 0)]
        self.assertEqual(ask(calls + [("entryat", 0), ("entryat", 3)])[-2:],
                         [[0, 0, 5, 100, 0, -1, 1, -1], [1, 0, 9, 98, 0, -1, -1, 2]])
        calls += [("pair", 0, [3, 0])]
        self.assertEqual([told[5:] for told in ask(calls + [("entryat", 0), ("entryat", 3)])[-2:]],
                         [[3, 1, -1], [3, -1, 2]])

    def test_a_mirror(self):
        calls = FUND + [("mirror", 1, 6), ("mirror", 0, 8)]
        self.assertEqual(ask(calls + [("entryat", place) for place in (6, 9, 8, 10)])[-4:], [
            [2, 0, 4, 105, 8, -1, 0, -1],
            [0, 0, 4, 105, 8, -1, 0, -1],
            [1, 1, 0, 40, 6, 1, -1, -1],
            [0, 1, 0, 40, 6, 1, -1, -1],
        ])

    def test_the_last_of_two_hundred(self):
        calls = [("account", 0, 0, 0, 1)] + entries(1, 0, [(n, n + 1) for n in range(200)])
        self.assertEqual(last(calls + [("entryat", 199)]), [1, 0, 199, 200, 0, -1, -1, -1])
        self.assertEqual(last(calls + [("entryat", 200)]), [-4])

    def test_none(self):
        for place in (9, -1, 200, LOWEST, HIGHEST):
            refused(self, FUND, ("entryat", place), -4)
        refused(self, [], ("entryat", 0), -4)

    def test_taken_away(self):
        refused(self, FUND + [("take", 4)], ("entryat", 4), -4)
        self.assertEqual(last(FUND + [("take", 4), ("entryat", 5)])[:4], [1, 0, 3, 15])
        refused(self, FUND + [("take", 8), ("entry", 0, 0, 0, 1, 0)], ("entryat", 8), -4)

    def test_changes_nothing(self):
        self.assertEqual(changes_nothing(self, GROUPED, ("entryat", 0)), [0, 0, 5, 100, 0, 0, 1, -1])


class GroupTest(unittest.TestCase):
    def test_tells_pair_account_gap_and_places(self):
        self.assertEqual(ask(GROUPED + [("group", place) for place in range(3)])[-3:],
                         [[0, 0, 2, 1, 0, 3], [1, 0, -5, 1, 0, 6], [2, 0, -7, 1, 3, 6]])
        self.assertEqual(last(FUND + [("pair", 0, [8, 7]), ("group", 0)]), [0, 1, 0, 1, 7, 8])

    def test_by_pair_in_the_order_told_on_each_side(self):
        calls = FUND + [("pair", 0, [5, 2, 3, 0, 4, 1]), ("group", 0)]
        self.assertEqual(last(calls), [0, 0, -8, 3, 2, 0, 1, 5, 3, 4])
        calls = FUND + [("pair", 0, [4, 3, 5, 0, 1, 2]), ("group", 0)]
        self.assertEqual(last(calls), [0, 0, -8, 3, 0, 1, 2, 4, 3, 5])

    def test_how_many_left_tells_the_sides_apart(self):
        calls = small_fund(0, 0, 0, 1, [(0, 6)], [(0, 1), (0, 2), (0, 3)])
        self.assertEqual(last(calls + [("pair", 0, [3, 0, 2, 1]), ("group", 0)]), [0, 0, 0, 1, 0, 3, 2, 1])
        calls = small_fund(0, 0, 0, 1, [(0, 1), (0, 2), (0, 3)], [(0, 6)])
        self.assertEqual(last(calls + [("pair", 0, [1, 3, 2, 0]), ("group", 0)]), [0, 0, 0, 3, 1, 2, 0, 3])

    def test_a_hundred_entries(self):
        rows = [(day, 3) for day in range(50)]
        places = [place for two in zip(range(99, 49, -1), range(50)) for place in two]
        calls = small_fund(0, 0, 0, 1, rows, rows) + [("pair", 0, places), ("group", 0)]
        self.assertEqual(last(calls), [0, 0, 0, 50, *range(50), *range(99, 49, -1)])

    def test_by_byref(self):
        rows = [(9, 5, 1), (4, 5, 1), (4, 7, 2)]
        calls = small_fund(2, 0, 0, 1, rows, rows[::-1]) + [("byref", 0, 2)]
        self.assertEqual(ask(calls + [("group", place) for place in range(4)])[-4:],
                         [[0, 2, 0, 1, 1, 4], [0, 2, 0, 1, 2, 3], [0, 2, 0, 1, 0, 5], [-4]])

    def test_by_run_entries_stand_by_days(self):
        calls = small_fund(0, 4, 1, 3, [(4, 10), (1, 200), (4, 4), (1, 50)], [(3, 9), (2, 200), (1, 5), (1, 51)])
        calls += [("run", 0, 0), ("group", 0), ("group", 1), ("group", 2), ("group", 3)]
        self.assertEqual(ask(calls)[-5:], [
            [4, 0], [0, 0, 0, 1, 1, 5], [0, 0, -1, 1, 3, 7], [0, 0, 1, 1, 0, 4], [0, 0, -1, 1, 2, 6],
        ])
        calls = small_fund(0, 4, 0, 3, [(4, 10), (1, 200), (4, 4)], [(3, 113), (2, 1), (1, 100)])
        self.assertEqual(ask(calls + [("run", 0, 0), ("group", 0)])[-2:], [[1, 0], [0, 0, 0, 3, 1, 0, 2, 5, 4, 3]])

    def test_by_mirror_each_is_on_its_books_side(self):
        for p, book, sides in ((0, 0, [0, 1]), (0, 1, [1, 0]), (1, 0, [0, 1]), (1, 2, [1, 0]), (2, 1, [0, 1]),
                               (2, 2, [1, 0])):
            calls = [("account", 3, 0, 0, 1), ("entry", book, 3, 0, 5, 0), ("mirror", p, 0), ("group", 0)]
            self.assertEqual(ask(calls)[-2:], [[1, 0], [p, 3, 0, 1, *sides]])

    def test_undone(self):
        refused(self, GROUPED + [("unpair", 1)], ("group", 1), -4)
        calls = GROUPED + [("unpair", 1), ("pair", 1, [0, 6])]
        self.assertEqual(ask(calls + [("group", place) for place in (0, 1, 2, 3)])[-4:],
                         [[0, 0, 2, 1, 0, 3], [-4], [2, 0, -7, 1, 3, 6], [1, 0, -5, 1, 0, 6]])

    def test_none(self):
        for place in (3, -1, 300, LOWEST, HIGHEST):
            refused(self, GROUPED, ("group", place), -4)
        refused(self, FUND, ("group", 0), -4)
        refused(self, [], ("group", 0), -4)

    def test_the_last_of_three_hundred(self):
        calls = nearly_full(0)
        self.assertEqual(last(calls + [("group", 299)]), [1, 0, 0, 1, 35, 167])
        self.assertEqual(last(calls + [("group", 300)]), [-4])

    def test_an_account_told_anew(self):
        calls = GROUPED + [("account", 0, 0, 0, 1), ("group", 0), ("group", 1), ("entryat", 0)]
        self.assertEqual(ask(calls)[-3:], [[0, 0, 2, 1, 0, 3], [1, 0, -5, 1, 0, 6], [0, 0, 5, 100, 0, 0, 1, -1]])

    def test_the_ends_of_amounts(self):
        most = 10 ** 12
        calls = small_fund(0, 0, 1000000, 1, [(0, most)] * 50, [(0, most)] * 49 + [(0, most - 1000000)])
        self.assertEqual(last(calls + [("pair", 0, list(range(100))), ("group", 0)])[:4], [0, 0, 1000000, 50])
        calls = small_fund(0, 0, 1000000, 1, [(0, -most)], [(0, 1000000 - most)])
        self.assertEqual(last(calls + [("pair", 0, [0, 1]), ("group", 0)])[:4], [0, 0, -1000000, 1])

    def test_changes_nothing(self):
        self.assertEqual(changes_nothing(self, GROUPED, ("group", 2)), [2, 0, -7, 1, 3, 6])


class BreaksTest(unittest.TestCase):
    def test_left_ones_and_right_ones_by_days(self):
        self.assertEqual(ask(FUND + [("breaks", p, 0) for p in range(3)])[-3:],
                         [[3, 3, 1, 0, 2, 4, 5, 3], [3, 1, 1, 0, 2, 6], [3, 1, 4, 5, 3, 6]])
        self.assertEqual(ask(FUND + [("breaks", p, 1) for p in range(3)])[-3:],
                         [[1, 1, 7, 8], [1, 0, 7], [1, 0, 8]])

    def test_on_one_day_as_they_came(self):
        calls = small_fund(0, 0, 0, 1, [(3, 5), (3, 9), (3, 1)], [(0, 9), (0, 5)])
        self.assertEqual(last(calls + [("breaks", 0, 0)]), [3, 2, 0, 1, 2, 3, 4])

    def test_one_that_came_later_with_an_earlier_day(self):
        calls = small_fund(0, 0, 0, 1, [(3, 5), (1, 5)], [(2, 5), (0, 5)])
        calls += entries(0, 0, [(1, 7), (0, 7), (100000, 7), (3, 7)]) + [("breaks", 0, 0)]
        self.assertEqual(last(calls), [6, 2, 5, 1, 4, 0, 7, 6, 3, 2])

    def test_none(self):
        calls = [("account", 3, 0, 0, 1)]
        self.assertEqual(ask(calls + [("breaks", p, 3) for p in range(3)])[-3:], [[0, 0]] * 3)
        self.assertEqual(last(FUND + [("byref", 0, 1), ("breaks", 0, 1)]), [0, 0])

    def test_those_in_groups_of_several_pairs(self):
        self.assertEqual(ask(GROUPED + [("breaks", p, 0) for p in range(3)])[-3:],
                         [[2, 2, 1, 2, 4, 5], [2, 0, 1, 2], [2, 0, 4, 5]])
        calls = GROUPED + [("unpair", 0)]
        self.assertEqual(ask(calls + [("breaks", p, 0) for p in range(3)])[-3:],
                         [[3, 3, 1, 0, 2, 4, 5, 3], [2, 0, 1, 2], [2, 0, 4, 5]])

    def test_taken_away(self):
        calls = FUND + [("take", 0), ("take", 4)]
        self.assertEqual(ask(calls + [("breaks", p, 0) for p in range(3)])[-3:],
                         [[2, 2, 1, 2, 5, 3], [2, 1, 1, 2, 6], [2, 1, 5, 3, 6]])

    def test_more_than_5_on_a_side(self):
        calls = small_fund(0, 0, 0, 1, [(0, 5)] * 100, [(0, 5)] * 100)
        self.assertEqual(last(calls + [("breaks", 0, 0)]), [100, 100, *range(200)])

    def test_an_account_told_anew(self):
        self.assertEqual(last(GROUPED + [("account", 0, 9, 0, 1), ("breaks", 0, 0)]), [2, 2, 1, 2, 4, 5])

    def test_refusals_and_their_order(self):
        wrong_pairs_and_accounts(self, "breaks")

    def test_changes_nothing(self):
        for p in range(3):
            changes_nothing(self, GROUPED, ("breaks", p, 0))


class BalanceTest(unittest.TestCase):
    def balances(self, calls, a=0):
        return ask(calls + [("balance", book, a) for book in range(3)])[-3:]

    def test_the_sum_of_the_amounts(self):
        self.assertEqual(self.balances(FUND), [[0, 165], [0, 173], [0, 105]])
        self.assertEqual(self.balances(FUND, 1), [[0, 40], [0, 40], [0, 0]])

    def test_groups_do_not_matter(self):
        self.assertEqual(self.balances(GROUPED), self.balances(FUND))
        self.assertEqual(self.balances(GROUPED + [("unpair", 1)]), self.balances(FUND))

    def test_below_0(self):
        calls = small_fund(0, 0, 0, 1, [(0, 5), (0, -9)], [(0, -1)])
        self.assertEqual(self.balances(calls), [[0, -4], [0, -1], [0, 0]])

    def test_taken_away(self):
        self.assertEqual(self.balances(FUND + [("take", 0), ("take", 6)]), [[0, 65], [0, 173], [0, 0]])

    def test_a_mirror_is_written_into_the_book(self):
        self.assertEqual(self.balances(FUND + [("mirror", 0, 0)]), [[0, 165], [0, 273], [0, 105]])
        self.assertEqual(self.balances(FUND + [("mirror", 0, 0), ("unpair", 0), ("take", 0)]),
                         [[0, 65], [0, 273], [0, 105]])

    def test_two_hundred_of_the_most(self):
        for amount in (10 ** 12, -(10 ** 12)):
            calls = [("account", 3, 0, 0, 1)] + entries(2, 3, [(0, amount)] * 200)
            self.assertEqual(self.balances(calls, 3), [[0, 0], [0, 0], [0, 200 * amount]])

    def test_an_account_told_anew(self):
        self.assertEqual(self.balances(FUND + [("account", 0, 1, 1, 1)]), [[0, 165], [0, 173], [0, 105]])

    def test_refusals_and_their_order(self):
        wrong_pairs_and_accounts(self, "balance")

    def test_changes_nothing(self):
        for book in range(3):
            changes_nothing(self, GROUPED, ("balance", book, 0))


class GapTest(unittest.TestCase):
    def gaps(self, calls, a=0):
        return ask(calls + [("gap", p, a) for p in range(3)])[-3:]

    def test_all_is_open(self):
        self.assertEqual(self.gaps(FUND), [[0, -8, -8, 0], [0, 60, 60, 0], [0, 68, 68, 0]])
        self.assertEqual(self.gaps(FUND, 1), [[0, 0, 0, 0], [0, 40, 40, 0], [0, 40, 40, 0]])

    def test_nothing_is_there(self):
        self.assertEqual(self.gaps([("account", 0, 0, 0, 1)]), [[0, 0, 0, 0]] * 3)

    def test_open_ones_and_what_was_let_pass(self):
        self.assertEqual(self.gaps(GROUPED), [[0, -8, -10, 2], [0, 60, 65, -5], [0, 68, 75, -7]])

    def test_gaps_keep_their_signs(self):
        calls = small_fund(0, 0, 5, 1, [(0, 10), (0, 20)], [(0, 13), (0, 16)])
        calls += [("pair", 0, [0, 2]), ("pair", 0, [1, 3])]
        self.assertEqual(ask(calls + [("group", 0), ("group", 1), ("gap", 0, 0)])[-3:],
                         [[0, 0, -3, 1, 0, 2], [0, 0, 4, 1, 1, 3], [0, 1, 0, 1]])

    def test_undone(self):
        self.assertEqual(self.gaps(GROUPED + [("unpair", 1)]), [[0, -8, -10, 2], [0, 60, 60, 0], [0, 68, 75, -7]])
        calls = GROUPED + [("unpair", 1), ("pair", 1, [0, 6])]
        self.assertEqual(self.gaps(calls), self.gaps(GROUPED))

    def test_taken_away(self):
        self.assertEqual(self.gaps(GROUPED + [("take", 1)]), [[0, -78, -80, 2], [0, -10, -5, -5], [0, 68, 75, -7]])

    def test_groups_of_other_accounts_do_not_matter(self):
        calls = GROUPED + [("account", 1, 0, 9, 1), ("entry", 0, 1, 0, 8, 0), ("entry", 1, 1, 0, 5, 0)]
        calls += [("pair", 0, [9, 10])]
        self.assertEqual(self.gaps(calls), self.gaps(GROUPED))
        self.assertEqual(self.gaps(calls, 1)[0], [0, 3, 0, 3])

    def test_an_account_told_anew(self):
        self.assertEqual(self.gaps(GROUPED + [("account", 0, 0, 0, 1)]), self.gaps(GROUPED))

    def test_the_ends_of_amounts(self):
        most = 10 ** 12
        calls = small_fund(0, 0, 0, 1, [(0, most)] * 100, [(0, -most)] * 100)
        self.assertEqual(self.gaps(calls)[0], [0, 200 * most, 200 * most, 0])

    def test_refusals_and_their_order(self):
        wrong_pairs_and_accounts(self, "gap")

    def test_changes_nothing(self):
        for p in range(3):
            changes_nothing(self, GROUPED, ("gap", p, 0))


class CountsTest(unittest.TestCase):
    def test_at_the_beginning(self):
        self.assertEqual(last([("counts",)]), [0, 0, 0, 0, 0])

    def test_today_entries_and_groups(self):
        self.assertEqual(last(FUND + [("counts",)]), [0, 9, 9, 0, 0])
        self.assertEqual(last(GROUPED + [("tick", 7), ("counts",)]), [7, 9, 9, 3, 3])

    def test_taken_away_and_undone(self):
        self.assertEqual(last(GROUPED + [("take", 1), ("unpair", 2), ("counts",)]), [0, 9, 8, 3, 2])
        calls = GROUPED + [("take", 1), ("unpair", 2), ("pair", 2, [3, 6]), ("entry", 0, 0, 0, 1, 0), ("counts",)]
        self.assertEqual(last(calls), [0, 10, 9, 4, 3])

    def test_what_makes_several_groups_counts_each(self):
        calls = small_fund(0, 9, 0, 1, [(0, n, n) for n in (1, 2, 3)], [(0, n, n) for n in (1, 2, 3)])
        for name in ("byref", "run"):
            self.assertEqual(last(calls + [(name, 0, 0), ("counts",)]), [0, 6, 6, 3, 3])
        self.assertEqual(last(calls + [("mirror", 1, 0), ("counts",)]), [0, 7, 7, 1, 1])

    def test_refused_calls_do_not_count(self):
        calls = FUND + [("entry", 3, 0, 0, 1, 0), ("pair", 0, [0]), ("take", 99), ("unpair", 0), ("tick", 0)]
        self.assertEqual(last(calls + [("counts",)]), [0, 9, 9, 0, 0])

    def test_three_hundred_groups(self):
        self.assertEqual(last(nearly_full(0) + [("counts",)]), [0, 198, 198, 300, 198])

    def test_clear(self):
        self.assertEqual(last(GROUPED + [("tick", 9), ("clear",), ("counts",)]), [0, 0, 0, 0, 0])

    def test_an_account_told_anew(self):
        self.assertEqual(last(GROUPED + [("account", 0, 0, 0, 1), ("counts",)]), [0, 9, 9, 3, 3])

    def test_changes_nothing(self):
        changes_nothing(self, GROUPED + [("tick", 3)], ("counts",))


if __name__ == "__main__":
    unittest.main()
