"""The calls pair, unpair, byref and mirror."""

import unittest

from tests.helper import HIGHEST, LOWEST, ask, entries, last, nearly_full, refused, small_fund

# Entries 0 to 2 of book 0, 3 to 5 of book 1, 6 of book 2; 7 and 8 of account 1.
FUND = small_fund(0, 0, 10, 1, [(0, 100), (50, 70), (9, -5)], [(99, 100), (3, 60), (3, 15)])
FUND += entries(2, 0, [(4, 100)]) + small_fund(1, 0, 0, 1, [(0, 100)], [(0, 100)])


class PairTest(unittest.TestCase):
    def test_answers_the_groups_place(self):
        calls = FUND + [("pair", 0, [0, 3]), ("pair", 0, [4, 1]), ("pair", 0, [7, 8]), ("pair", 2, [6, 3])]
        self.assertEqual(ask(calls)[-4:], [[0], [1], [2], [3]])

    def test_window_and_size_are_not_asked(self):
        self.assertEqual(last(FUND + [("pair", 0, [0, 1, 3, 4, 5])]), [0])

    def test_many_entries(self):
        rows = [(day, 3) for day in range(50)]
        calls = small_fund(0, 0, 0, 1, rows, rows)
        self.assertEqual(ask(calls + [("pair", 0, list(range(100))), ("unpair", 0)])[-2:], [[0], [100]])

    def test_the_entries_are_in_the_group(self):
        calls = FUND + [("pair", 0, [3, 0])]
        for place in (0, 3):
            self.assertEqual(last(calls + [("take", place)]), [-5])
            refused(self, calls, ("pair", 0, [place, 4]), -5)
        self.assertEqual(last(calls + [("take", 6)]), [0])

    def test_in_the_order_told_on_each_side(self):
        calls = [("account", 0, 0, 0, 1)] + [("entry", book, 0, 0, 5, 0) for book in (0, 1, 0, 1, 0, 1)]
        calls += [("pair", 0, [3, 4, 0, 5, 1, 2]), ("group", 0)]
        self.assertEqual(ask(calls)[-2:], [[0], [0, 0, 0, 3, 4, 0, 2, 3, 5, 1]])

    def test_tolerance_just_met_and_just_missed(self):
        for left, right in ((100, 90), (90, 100), (-100, -90), (5, -5), (-5, 5)):
            for tolerance, told in ((9, -7), (10, 0), (11, 0)):
                calls = small_fund(0, 0, tolerance, 1, [(0, left)], [(0, right)])
                self.assertEqual(last(calls + [("pair", 0, [0, 1])]), [told])

    def test_p_out_of_range(self):
        for p in (-1, 3, LOWEST, HIGHEST):
            refused(self, FUND, ("pair", p, [0, 3]), -1)

    def test_a_place_below_0(self):
        for place in (-1, LOWEST):
            refused(self, FUND, ("pair", 0, [0, 3, place]), -1)
            refused(self, FUND, ("pair", 0, [place, 0, 3]), -1)

    def test_none(self):
        refused(self, FUND, ("pair", 0, []), -5)

    def test_one_is_not_there(self):
        for place in (9, 199, 200, HIGHEST):
            refused(self, FUND, ("pair", 0, [0, 3, place]), -5)
        refused(self, FUND + [("take", 3)], ("pair", 0, [0, 3]), -5)

    def test_not_all_of_one_account(self):
        refused(self, FUND, ("pair", 0, [0, 8]), -5)
        refused(self, FUND, ("pair", 0, [0, 3, 7, 8]), -5)

    def test_one_is_not_of_the_two_books(self):
        for p, places in ((0, [0, 6]), (1, [0, 3]), (2, [0, 3]), (0, [0, 3, 6]), (1, [6, 0, 3]), (2, [3, 6, 0])):
            refused(self, FUND, ("pair", p, places), -5)

    def test_one_is_told_twice(self):
        for places in ([0, 0, 3], [0, 3, 3], [0, 0], [0, 3] * 50):
            refused(self, FUND, ("pair", 0, places), -5)

    def test_all_are_of_one_book(self):
        for p, places in ((0, [0]), (0, [3]), (0, [0, 1, 2]), (0, [3, 4]), (1, [6]), (2, [6]), (2, [3, 4])):
            refused(self, FUND, ("pair", p, places), -6)

    def test_gap_above_the_tolerance(self):
        refused(self, FUND, ("pair", 0, [0, 4]), -7)
        self.assertEqual(last(FUND + [("account", 0, 0, 40, 1), ("pair", 0, [0, 4])]), [0])

    def test_the_tolerance_is_the_accounts_own(self):
        calls = small_fund(0, 0, 0, 1, [(0, 5)], [(0, 6)]) + small_fund(1, 0, 1, 1, [(0, 5)], [(0, 6)])
        self.assertEqual(ask(calls + [("pair", 0, [0, 1]), ("pair", 0, [2, 3])])[-2:], [[-7], [0]])

    def test_the_order_of_refusals(self):
        refused(self, FUND, ("pair", 3, []), -1)
        refused(self, FUND, ("pair", 3, [0, 0]), -1)
        refused(self, FUND, ("pair", 0, [99, -1]), -1)
        refused(self, FUND, ("pair", 0, [-1, -1]), -1)
        refused(self, FUND, ("pair", 0, [0, 1, 0]), -5)
        refused(self, FUND, ("pair", 0, [99]), -5)
        refused(self, FUND, ("pair", 0, [6]), -5)
        refused(self, FUND, ("pair", 0, [0, 1]), -6)
        refused(self, FUND + [("pair", 0, [0, 3])], ("pair", 0, [0, 4]), -5)

    def test_groups_of_several_pairs(self):
        calls = FUND + [("pair", 0, [0, 3]), ("pair", 1, [0, 6]), ("pair", 2, [3, 6])]
        self.assertEqual(ask(calls)[-3:], [[0], [1], [2]])
        refused(self, calls, ("pair", 1, [0, 6]), -5)
        self.assertEqual(ask(calls + [("unpair", 1), ("pair", 0, [0, 3]), ("pair", 1, [6, 0])])[-2:], [[-5], [3]])

    def test_three_hundred(self):
        calls = nearly_full(1) + [("unpair", 197)]
        self.assertEqual(ask(calls)[-3:], [[66], [35], [2]])
        self.assertEqual(last(calls + [("pair", 2, [131, 197])]), [299])
        full = calls + [("unpair", 196), ("pair", 2, [131, 197])]
        refused(self, full, ("pair", 2, [130, 196]), -3)

    def test_three_hundred_counts_last(self):
        full = nearly_full(0) + [("unpair", 197), ("unpair", 196)]
        refused(self, full, ("pair", 3, [131, 197]), -1)
        refused(self, full, ("pair", 2, []), -5)
        refused(self, full, ("pair", 2, [131]), -6)
        refused(self, full, ("pair", 2, [130, 197]), -7)
        refused(self, full, ("pair", 2, [131, 197]), -3)


class UnpairTest(unittest.TestCase):
    def test_answers_how_many_entries_it_had(self):
        calls = FUND + [("pair", 0, [0, 1, 3, 4]), ("pair", 1, [0, 6]), ("unpair", 0), ("unpair", 1)]
        self.assertEqual(ask(calls)[-2:], [[4], [2]])

    def test_it_holds_no_more(self):
        calls = FUND + [("pair", 0, [0, 3]), ("unpair", 0)]
        refused(self, calls, ("unpair", 0), -4)
        self.assertEqual(last(calls + [("pair", 0, [0, 3])]), [1])
        self.assertEqual(ask(calls + [("take", 0), ("take", 3)])[-2:], [[0], [0]])

    def test_no_such_group(self):
        calls = FUND + [("pair", 0, [0, 3])]
        for group in (1, -1, 300, LOWEST, HIGHEST):
            refused(self, calls, ("unpair", group), -4)
        refused(self, FUND, ("unpair", 0), -4)

    def test_other_groups_of_its_entries_hold(self):
        calls = FUND + [("pair", 0, [0, 3]), ("pair", 1, [0, 6]), ("unpair", 0)]
        refused(self, calls, ("take", 0), -5)
        refused(self, calls, ("pair", 1, [0, 6]), -5)
        self.assertEqual(last(calls + [("unpair", 1)]), [2])

    def test_an_undone_group_does_not_count_its_entries_new_group(self):
        calls = FUND + [("pair", 0, [0, 3]), ("unpair", 0), ("pair", 0, [0, 3])]
        refused(self, calls, ("unpair", 0), -4)
        refused(self, calls, ("take", 0), -5)
        self.assertEqual(last(calls + [("unpair", 1)]), [2])


class ByrefTest(unittest.TestCase):
    def groups(self, lefts, rights, account=(0, 0, 0, 1)):
        """Which two entries byref brought together, in the order of the groups."""
        calls = [("account", *account)] + entries(0, 0, lefts) + entries(1, 0, rights) + [("byref", 0, 0)]
        told = ask(calls + [("group", group) for group in range(last(calls)[0])])[len(calls):]
        self.assertEqual([group[:4] for group in told], [[0, 0, 0, 1]] * len(told))
        return [tuple(group[4:]) for group in told]

    def test_same_reference_and_amount(self):
        lefts = [(0, 10, 1), (0, 20, 2), (0, 30, 3)]
        rights = [(0, 30, 3), (0, 20, 1), (0, 10, 1)]
        self.assertEqual(self.groups(lefts, rights), [(0, 5), (2, 3)])

    def test_no_reference_makes_no_group(self):
        self.assertEqual(self.groups([(0, 10, 0)], [(0, 10, 0)]), [])
        self.assertEqual(self.groups([(0, 10, 0), (0, 10, 4)], [(0, 10, 0), (0, 10, 4)]), [(1, 3)])

    def test_no_tolerance_in_amounts(self):
        self.assertEqual(self.groups([(0, 10, 1)], [(0, 11, 1)], (0, 9, 1000000, 3)), [])
        self.assertEqual(self.groups([(0, 10, 1)], [(0, -10, 1)], (0, 9, 1000000, 3)), [])

    def test_window_and_size_are_not_asked(self):
        lefts = [(0, 10, 1), (0, 11, 1), (0, 12, 1), (0, 13, 1)]
        rights = [(100000, 13, 1), (100000, 12, 1), (100000, 11, 1), (100000, 10, 1)]
        self.assertEqual(self.groups(lefts, rights), [(0, 7), (1, 6), (2, 5), (3, 4)])

    def test_more_than_5_on_a_side(self):
        rows = [(0, 5, 1)] * 20
        self.assertEqual(len(self.groups(rows, rows)), 20)

    def test_the_first_right_one_in_their_order(self):
        self.assertEqual(self.groups([(0, 5, 1)], [(7, 5, 1), (3, 5, 1), (3, 5, 1)]), [(0, 2)])

    def test_left_ones_in_their_order(self):
        self.assertEqual(self.groups([(9, 5, 1), (4, 5, 1), (4, 5, 1)], [(0, 5, 1), (0, 5, 1)]), [(1, 3), (2, 4)])

    def test_a_right_one_is_in_one_group_alone(self):
        self.assertEqual(self.groups([(0, 5, 1), (0, 5, 1)], [(0, 5, 1)]), [(0, 2)])

    def test_open_ones_alone_and_those_of_the_pair_and_the_account(self):
        rows = [(0, 5, 1)]
        calls = small_fund(0, 0, 0, 1, rows, rows) + entries(2, 0, rows) + small_fund(1, 0, 0, 1, rows, [])
        self.assertEqual(ask(calls + [("byref", 0, 0), ("byref", 0, 0), ("byref", 0, 1)])[-3:], [[1], [0], [0]])
        self.assertEqual(ask(calls + [("byref", p, 0) for p in range(3)])[-3:], [[1], [1], [1]])
        self.assertEqual(last(calls + [("take", 1), ("byref", 0, 0)]), [0])
        self.assertEqual(last(calls + [("byref", 0, 0), ("unpair", 0), ("byref", 0, 0)]), [1])

    def test_nothing_to_do(self):
        self.assertEqual(last([("account", 3, 0, 0, 1), ("byref", 2, 3)]), [0])

    def test_refusals_and_their_order(self):
        calls = small_fund(0, 0, 0, 1, [(0, 5, 1)], [(0, 5, 1)])
        for a in (1, -1, 4, LOWEST, HIGHEST):
            refused(self, calls, ("byref", 0, a), -2)
            refused(self, calls, ("byref", 3, a), -2)
        for p in (-1, 3, LOWEST, HIGHEST):
            refused(self, calls, ("byref", p, 0), -1)

    def test_three_hundred(self):
        calls = nearly_full(3) + [("unpair", 197), ("unpair", 196)]
        self.assertEqual(last(calls + [("byref", 2, 0)]), [2])
        calls += [("unpair", 195)]
        self.assertEqual(last(calls + [("byref", 2, 0)]), [3])
        calls += [("unpair", 194)]
        refused(self, calls, ("byref", 2, 0), -3)
        self.assertEqual(last(calls + [("pair", 2, [131, 197])]), [297])

    def test_three_hundred_and_none_more_to_make(self):
        full = nearly_full(0)
        self.assertEqual(last(full + [("byref", 0, 0)]), [0])
        refused(self, full + [("unpair", 197)], ("byref", 2, 0), -3)
        refused(self, full + [("unpair", 197)], ("byref", 2, 1), -2)
        refused(self, full + [("unpair", 197)], ("byref", 3, 0), -1)


class MirrorTest(unittest.TestCase):
    def test_answers_the_new_places(self):
        calls = FUND + [("pair", 0, [7, 8]), ("mirror", 0, 0), ("mirror", 0, 3), ("mirror", 1, 6), ("mirror", 2, 6)]
        self.assertEqual(ask(calls)[-4:], [[9, 1], [10, 2], [11, 3], [12, 4]])

    def test_the_two_are_a_group_of_this_pair(self):
        for p, place in ((0, 0), (0, 3), (1, 0), (1, 6), (2, 3), (2, 6)):
            calls = FUND + [("mirror", p, place)]
            refused(self, calls, ("take", place), -5)
            refused(self, calls, ("take", 9), -5)
            self.assertEqual(ask(calls + [("unpair", 0), ("pair", p, [9, place])])[-2:], [[2], [1]])

    def test_the_new_one_is_open_in_other_pairs(self):
        calls = FUND + [("mirror", 0, 0)]
        self.assertEqual(last(calls + [("pair", 2, [9, 6])]), [1])
        self.assertEqual(last(calls + [("mirror", 2, 9)]), [10, 1])
        self.assertEqual(last(calls + [("mirror", 1, 9)]), [-5])

    def test_with_the_same_account_day_amount_and_reference(self):
        base = [("account", a, 0, 0, 1) for a in range(3)]
        for p, book, other in ((0, 0, 1), (0, 1, 0), (1, 0, 2), (1, 2, 0), (2, 1, 2), (2, 2, 1)):
            third = 3 - book - other
            q = 2 if {other, third} == {1, 2} else other + third - 1
            for day, amount, reference, told in ((4, 7, 9, 1), (5, 7, 9, 0), (3, 7, 9, 0), (4, 8, 9, 0)):
                calls = base + [("entry", book, 2, 4, 7, 9), ("mirror", p, 0)]
                calls += [("entry", third, 2, day, amount, reference)]
                self.assertEqual(last(calls + [("best", q, 2)]), [0 if told else 2, told, 0])
            for amount, reference, told in ((7, 9, 1), (7, 8, 0), (8, 9, 0)):
                calls = base + [("entry", book, 2, 4, 7, 9), ("mirror", p, 0)]
                calls += [("entry", third, 2, 99, amount, reference), ("byref", q, 2)]
                self.assertEqual(last(calls), [told])

    def test_an_entry_without_reference_below_0(self):
        calls = [("account", 0, 0, 0, 1), ("entry", 1, 0, 4, -7, 0), ("mirror", 0, 0), ("entry", 2, 0, 4, -7, 0)]
        self.assertEqual(ask(calls + [("byref", 1, 0), ("best", 1, 0)])[-2:], [[0], [0, 1, 0]])

    def test_tolerance_0_lets_it_pass(self):
        self.assertEqual(last(FUND + [("mirror", 0, 7)]), [9, 0])

    def test_p_out_of_range(self):
        for p in (-1, 3, LOWEST, HIGHEST):
            refused(self, FUND, ("mirror", p, 0), -1)
            refused(self, FUND, ("mirror", p, 99), -1)

    def test_no_such_entry(self):
        for place in (9, -1, 200, LOWEST, HIGHEST):
            refused(self, FUND, ("mirror", 0, place), -4)
        refused(self, FUND + [("take", 0)], ("mirror", 0, 0), -4)

    def test_not_of_the_pairs_books(self):
        for p, place in ((0, 6), (1, 3), (2, 0)):
            refused(self, FUND, ("mirror", p, place), -5)

    def test_not_open_in_the_pair(self):
        calls = FUND + [("pair", 0, [0, 3])]
        refused(self, calls, ("mirror", 0, 0), -5)
        refused(self, calls, ("mirror", 0, 3), -5)
        self.assertEqual(last(calls + [("mirror", 1, 0)]), [9, 1])
        self.assertEqual(last(calls + [("unpair", 0), ("mirror", 0, 0)]), [9, 1])

    def test_two_hundred_entries(self):
        calls = [("account", 0, 0, 0, 1)] + entries(0, 0, [(0, 1)] * 199)
        self.assertEqual(last(calls + [("mirror", 0, 5)]), [199, 0])
        refused(self, calls + [("mirror", 0, 5)], ("mirror", 0, 6), -3)
        refused(self, calls + [("take", 1), ("mirror", 0, 5)], ("mirror", 0, 6), -3)
        refused(self, calls + [("mirror", 0, 5)], ("mirror", 3, 6), -1)
        refused(self, calls + [("mirror", 0, 5)], ("mirror", 0, 200), -4)
        refused(self, calls + [("mirror", 0, 5)], ("mirror", 0, 5), -5)
        refused(self, calls + [("mirror", 0, 5)], ("mirror", 2, 6), -5)

    def test_three_hundred_groups(self):
        calls = nearly_full(1) + [("unpair", 197), ("unpair", 196)]
        self.assertEqual(last(calls + [("mirror", 2, 131)]), [198, 299])
        refused(self, calls + [("mirror", 2, 131)], ("mirror", 2, 130), -3)
        refused(self, calls + [("mirror", 2, 131)], ("mirror", 2, 131), -5)


if __name__ == "__main__":
    unittest.main()
