"""The calls account, entry and take."""

import unittest

from tests.helper import HIGHEST, LOWEST, ask, entries, last, refused, small_fund

FUND = small_fund(0, 2, 1, 2, [(1, 100), (2, 50)], [(2, 151), (3, 50)])


def numbers_out_of(ranges, ordinary):
    """Each row of ordinary numbers with one number just out of its range or at an end of what may be handed in."""
    for at, (least, most) in enumerate(ranges):
        for wrong in (least - 1, most + 1, LOWEST, HIGHEST):
            yield at, ordinary[:at] + (wrong,) + ordinary[at + 1:]


class AccountTest(unittest.TestCase):
    ranges = ((0, 3), (0, 100), (0, 1000000), (1, 3))

    def test_answers_0_for_each_account(self):
        self.assertEqual(ask([("account", a, 5, 10, 2) for a in range(4)]), [[0]] * 4)

    def test_the_ends_of_each_range(self):
        for at, ends in enumerate(self.ranges):
            for end in ends:
                given = [1, 1, 1, 1]
                given[at] = end
                self.assertEqual(last([("account", *given)]), [0])

    def test_out_of_range(self):
        for _, given in numbers_out_of(self.ranges, (0, 5, 10, 1)):
            refused(self, FUND, ("account", *given), -1)
            refused(self, [], ("account", *given), -1)

    def test_the_account_is_there_and_no_other(self):
        calls = [("account", 2, 0, 0, 1)]
        self.assertEqual(last(calls + [("entry", 0, 2, 0, 1, 0)]), [0])
        for a in (0, 1, 3):
            self.assertEqual(last(calls + [("entry", 0, a, 0, 1, 0)]), [-2])

    def test_told_anew_entries_and_groups_stay(self):
        calls = FUND + [("run", 0, 0), ("account", 0, 0, 0, 1)]
        self.assertEqual(last(calls + [("take", 0)]), [-5])
        self.assertEqual(last(calls + [("unpair", 0)]), [3])
        self.assertEqual(last(calls + [("best", 0, 0)]), [1, 0, 0])
        self.assertEqual(last(calls + [("entry", 0, 0, 0, 1, 0)]), [4])

    def test_told_anew_the_new_numbers_count(self):
        self.assertEqual(last(FUND + [("best", 0, 0)]), [1, 1, 1])
        self.assertEqual(last(FUND + [("account", 0, 0, 1, 2), ("best", 0, 0)]), [4, 0, 0])
        self.assertEqual(last(FUND + [("account", 0, 2, 0, 2), ("best", 0, 0)]), [2, 1, 0])
        self.assertEqual(last(FUND + [("account", 0, 2, 1, 1), ("best", 0, 0)]), [2, 1, 0])
        self.assertEqual(last(FUND + [("account", 0, 2, 51, 1), ("best", 0, 0)]), [0, 2, 51])
        self.assertEqual(last(FUND + [("account", 0, 0, 0, 1), ("pair", 0, [0, 1, 2])]), [-7])

    def test_accounts_have_numbers_of_their_own(self):
        calls = small_fund(0, 0, 0, 1, [(0, 5)], [(1, 6)]) + small_fund(1, 1, 1, 1, [(0, 5)], [(1, 6)])
        self.assertEqual(ask(calls + [("best", 0, 0), ("best", 0, 1)])[-2:], [[2, 0, 0], [0, 1, 1]])


class EntryTest(unittest.TestCase):
    ranges = ((0, 2), (0, 3), (0, 100000), (-(10 ** 12), 10 ** 12), (0, 1000000))
    accounts = [("account", a, 2, 1, 2) for a in range(4)]

    def test_answers_places_as_they_came(self):
        calls = self.accounts + [("entry", n % 3, n % 4, 9 - n, 1 + n, n) for n in range(10)]
        self.assertEqual(ask(calls)[4:], [[n] for n in range(10)])

    def test_the_ends_of_each_range(self):
        for at, ends in enumerate(self.ranges):
            for end in ends:
                given = [1, 1, 1, 1, 1]
                given[at] = end
                self.assertEqual(last(self.accounts + [("entry", *given)]), [0])

    def test_amounts_beside_0(self):
        for amount, told in ((-1, 0), (0, -1), (1, 0)):
            self.assertEqual(last(self.accounts + [("entry", 0, 0, 0, amount, 0)]), [told])

    def test_out_of_range(self):
        for at, given in numbers_out_of(self.ranges, (1, 0, 5, 7, 3)):
            refused(self, FUND, ("entry", *given), -2 if at == 1 else -1)
        refused(self, FUND, ("entry", 0, 0, 0, 0, 0), -1)

    def test_an_account_that_is_not_there(self):
        for a in (1, 2, 3, -1, 4, LOWEST, HIGHEST):
            refused(self, FUND, ("entry", 0, a, 0, 1, 0), -2)

    def test_no_account_counts_before_a_number_out_of_range(self):
        refused(self, FUND, ("entry", 3, 1, -1, 0, -1), -2)

    def test_two_hundred(self):
        calls = [("account", 0, 0, 0, 1)] + entries(0, 0, [(0, 1)] * 200)
        self.assertEqual(last(calls), [199])
        refused(self, calls, ("entry", 0, 0, 0, 1, 0), -3)

    def test_two_hundred_with_those_taken_away(self):
        calls = [("account", 0, 0, 0, 1)] + entries(0, 0, [(0, 1)] * 199) + [("take", 0), ("take", 198)]
        self.assertEqual(last(calls + [("entry", 0, 0, 0, 1, 0)]), [199])
        refused(self, calls + [("entry", 0, 0, 0, 1, 0)], ("entry", 0, 0, 0, 1, 0), -3)

    def test_two_hundred_counts_last(self):
        calls = [("account", 0, 0, 0, 1)] + entries(0, 0, [(0, 1)] * 200)
        refused(self, calls, ("entry", 0, 1, 0, 1, 0), -2)
        refused(self, calls, ("entry", 3, 0, 0, 1, 0), -1)
        refused(self, calls, ("entry", 0, 0, 0, 0, 0), -1)


class TakeTest(unittest.TestCase):
    def test_takes_away(self):
        calls = FUND + [("take", 2)]
        self.assertEqual(last(calls), [0])
        self.assertEqual(last(calls + [("best", 0, 0)]), [1, 1, 0])
        self.assertEqual(last(calls + [("pair", 0, [0, 1, 2])]), [-5])
        self.assertEqual(last(calls + [("mirror", 0, 2)]), [-4])

    def test_its_place_is_never_given_again(self):
        calls = FUND + [("take", 3), ("entry", 0, 0, 0, 1, 0)]
        self.assertEqual(last(calls), [4])
        refused(self, calls, ("take", 3), -4)

    def test_no_such_entry(self):
        for place in (4, -1, 200, LOWEST, HIGHEST):
            refused(self, FUND, ("take", place), -4)

    def test_in_a_group_that_holds(self):
        for p, book in ((0, 1), (1, 2), (2, 2)):
            fund = [("account", 0, 0, 0, 1), ("entry", p // 2, 0, 0, 5, 0), ("entry", book, 0, 0, 5, 0)]
            calls = fund + [("pair", p, [0, 1])]
            refused(self, calls, ("take", 0), -5)
            refused(self, calls, ("take", 1), -5)
            self.assertEqual(ask(calls + [("unpair", 0), ("take", 0), ("take", 1)])[-2:], [[0], [0]])

    def test_in_groups_of_several_pairs(self):
        fund = [("account", 0, 0, 0, 1)] + [("entry", book, 0, 0, 5, 0) for book in range(3)]
        calls = fund + [("pair", 0, [0, 1]), ("pair", 1, [0, 2]), ("unpair", 0)]
        refused(self, calls, ("take", 0), -5)
        refused(self, calls, ("take", 2), -5)
        self.assertEqual(last(calls + [("take", 1)]), [0])
        self.assertEqual(last(calls + [("unpair", 1), ("take", 0)]), [0])


if __name__ == "__main__":
    unittest.main()
