"""The calls tick and aged."""

import unittest

from tests.helper import HIGHEST, LOWEST, ask, changes_nothing, entries, last, refused, small_fund

# Entries 0 and 1 of book 0, 2 and 3 of book 1, 4 of book 2; today is 6.
FUND = small_fund(0, 0, 0, 1, [(5, 100), (2, 70)], [(6, 100), (3, 60)]) + entries(2, 0, [(7, 100)]) + [("tick", 6)]


def days_later(n):
    """Ticks that make today n later."""
    return [("tick", 1000)] * (n // 1000) + ([("tick", n % 1000)] if n % 1000 else [])


class TickTest(unittest.TestCase):
    def test_answers_today(self):
        self.assertEqual(ask([("tick", 3), ("tick", 1), ("tick", 500), ("counts",)]),
                         [[3], [4], [504], [504, 0, 0, 0, 0]])

    def test_the_ends_of_the_range(self):
        self.assertEqual(ask([("tick", 1), ("tick", 1000)]), [[1], [1001]])

    def test_out_of_range(self):
        for n in (0, -1, 1001, LOWEST, HIGHEST):
            refused(self, FUND, ("tick", n), -1)
            refused(self, [], ("tick", n), -1)

    def test_today_at_its_last_day_and_one_above(self):
        calls = days_later(99999)
        self.assertEqual(last(calls), [99999])
        refused(self, calls, ("tick", 2), -3)
        refused(self, calls, ("tick", 1000), -3)
        self.assertEqual(last(calls + [("tick", 1)]), [100000])
        refused(self, calls + [("tick", 1)], ("tick", 1), -3)
        refused(self, days_later(99001), ("tick", 1000), -3)
        self.assertEqual(last(days_later(99001) + [("tick", 999)]), [100000])
        self.assertEqual(last(days_later(99000) + [("tick", 1000)]), [100000])

    def test_out_of_range_counts_before_too_late(self):
        for n in (0, -1, 1001, LOWEST, HIGHEST):
            refused(self, days_later(100000), ("tick", n), -1)

    def test_clear_makes_today_0(self):
        self.assertEqual(ask([("tick", 9), ("clear",), ("tick", 2)]), [[9], [0], [2]])
        self.assertEqual(last(days_later(100000) + [("clear",), ("tick", 1)]), [1])

    def test_entries_and_groups_stay(self):
        calls = small_fund(0, 2, 1, 2, [(1, 100)], [(2, 101)]) + [("run", 0, 0), ("tick", 1000)]
        self.assertEqual(ask(calls + [("group", 0), ("entryat", 0)])[-2:],
                         [[0, 0, -1, 1, 0, 1], [0, 0, 1, 100, 0, 0, -1, -1]])

    def test_days_of_entries_do_not_ask_for_today(self):
        calls = [("account", 0, 0, 0, 1), ("entry", 0, 0, 100000, 5, 0), ("tick", 9), ("entry", 0, 0, 0, 5, 0)]
        self.assertEqual(ask(calls)[1:], [[0], [9], [1]])


class AgedTest(unittest.TestCase):
    def aged(self, calls, n, p=0):
        return last(calls + [("aged", p, 0, n)])

    def test_left_ones_and_right_ones_by_days(self):
        self.assertEqual(self.aged(FUND, 0), [4, 1, 0, 3, 2])
        self.assertEqual(self.aged(FUND, 1), [3, 1, 0, 3])
        self.assertEqual(self.aged(FUND, 3), [2, 1, 3])
        self.assertEqual(self.aged(FUND, 4), [1, 1])
        self.assertEqual(self.aged(FUND, 5), [0])

    def test_an_age_just_met_and_just_missed(self):
        calls = small_fund(0, 0, 0, 1, [(10, 5)], [])
        for today, n, told in ((9, 0, [0]), (10, 0, [1, 0]), (10, 1, [0]), (14, 4, [1, 0]), (14, 5, [0])):
            self.assertEqual(self.aged(calls + days_later(today), n), told)

    def test_entries_of_days_to_come(self):
        self.assertEqual(self.aged(FUND, 0, 1), [2, 1, 0])
        self.assertEqual(self.aged(FUND + [("tick", 1)], 0, 1), [3, 1, 0, 4])
        self.assertEqual(self.aged(small_fund(0, 0, 0, 1, [(1, 5)], [(0, 5)]), 0), [1, 1])

    def test_the_ends_of_days(self):
        calls = small_fund(0, 0, 0, 1, [(0, 5), (1, 5), (100000, 5)], [(99999, 5), (0, 5)])
        self.assertEqual(self.aged(calls, 100000), [0])
        self.assertEqual(self.aged(calls + days_later(99999), 100000), [0])
        self.assertEqual(self.aged(calls + days_later(99999), 99999), [2, 0, 4])
        late = calls + days_later(100000)
        self.assertEqual(self.aged(late, 100000), [2, 0, 4])
        self.assertEqual(self.aged(late, 99999), [3, 0, 1, 4])
        self.assertEqual(self.aged(late, 1), [4, 0, 1, 4, 3])
        self.assertEqual(self.aged(late, 0), [5, 0, 1, 2, 4, 3])

    def test_entries_of_one_day_and_one_that_came_later_with_an_earlier_day(self):
        calls = small_fund(0, 0, 0, 1, [(3, 5), (3, 6), (1, 5)], [(2, 5), (2, 4), (0, 9)])
        calls += entries(0, 0, [(1, 8)]) + [("tick", 3)]
        self.assertEqual(self.aged(calls, 0), [7, 2, 6, 0, 1, 5, 3, 4])
        self.assertEqual(self.aged(calls, 1), [5, 2, 6, 5, 3, 4])
        self.assertEqual(self.aged(calls, 2), [3, 2, 6, 5])
        self.assertEqual(self.aged(calls, 3), [1, 5])

    def test_open_ones_alone(self):
        calls = FUND + [("pair", 0, [0, 2])]
        self.assertEqual(self.aged(calls, 0), [2, 1, 3])
        self.assertEqual(self.aged(calls + [("tick", 1)], 0, 1), [3, 1, 0, 4])
        self.assertEqual(self.aged(calls + [("unpair", 0)], 0), [4, 1, 0, 3, 2])
        self.assertEqual(self.aged(FUND + [("take", 1)], 0), [3, 0, 3, 2])

    def test_each_account_has_its_own(self):
        calls = FUND + [("account", 3, 0, 0, 1), ("entry", 1, 3, 0, 5, 0)]
        self.assertEqual(ask(calls + [("aged", 0, 3, 0), ("aged", 1, 3, 0), ("aged", 2, 3, 6)])[-3:],
                         [[1, 5], [0], [1, 5]])
        self.assertEqual(self.aged(calls, 0), [4, 1, 0, 3, 2])

    def test_an_account_told_anew(self):
        self.assertEqual(self.aged(FUND + [("account", 0, 100, 9, 3)], 1), [3, 1, 0, 3])

    def test_clear_makes_today_0(self):
        calls = FUND + [("clear",)] + small_fund(0, 0, 0, 1, [(1, 5)], [(0, 5)])
        self.assertEqual(self.aged(calls, 0), [1, 1])

    def test_refusals_and_their_order(self):
        for a in (1, 3, -1, 4, LOWEST, HIGHEST):
            refused(self, FUND, ("aged", 0, a, 0), -2)
            refused(self, FUND, ("aged", 3, a, 0), -2)
            refused(self, FUND, ("aged", 0, a, -1), -2)
        for p in (-1, 3, LOWEST, HIGHEST):
            refused(self, FUND, ("aged", p, 0, 0), -1)
        for n in (-1, 100001, LOWEST, HIGHEST):
            refused(self, FUND, ("aged", 0, 0, n), -1)
            refused(self, FUND, ("aged", 3, 0, n), -1)
        refused(self, [], ("aged", 0, 0, 0), -2)

    def test_changes_nothing(self):
        self.assertEqual(changes_nothing(self, FUND, ("aged", 0, 0, 0)), [4, 1, 0, 3, 2])
        self.assertEqual(changes_nothing(self, FUND, ("aged", 2, 0, 3)), [1, 3])


if __name__ == "__main__":
    unittest.main()
