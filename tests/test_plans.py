"""The calls run, best and explain, and the least explanation that they lean on."""

import random
import unittest

from tests.helper import HIGHEST, LOWEST, ask, changes_nothing, entries, explanation, last, nearly_full, plain_best
from tests.helper import refused, small_fund

EXAMPLE = small_fund(0, 2, 1, 2, [(1, 100), (2, 50)], [(2, 151), (3, 50)])


def explained(window, tolerance, size, lefts, rights):
    """The least explanation of (day, amount) rows, as its row of labels."""
    calls = small_fund(0, window, tolerance, size, lefts, rights)
    still, told = ask(calls + [("breaks", 0, 0), ("explain", 0, 0)])[-2:]
    labels = {}
    for number, (left, right) in enumerate(explanation(told), start=1):
        labels.update({place: number for place in left + right})
    return tuple(labels.get(place, 0) for place in still[2:])


def best(window, tolerance, size, lefts, rights):
    return last(small_fund(0, window, tolerance, size, lefts, rights) + [("best", 0, 0)])


class ExampleTest(unittest.TestCase):
    def test_best_and_run(self):
        found = ask(EXAMPLE + [("best", 0, 0), ("run", 0, 0), ("best", 0, 0), ("run", 0, 0)])
        self.assertEqual(found[-4:], [[1, 1, 1], [1, 1], [1, 0, 0], [0, 1]])

    def test_the_group_is_of_entries_0_1_and_2(self):
        calls = EXAMPLE + [("run", 0, 0)]
        self.assertEqual(last(calls + [("unpair", 0)]), [3])
        self.assertEqual([last(calls + [("take", place)]) for place in range(4)], [[-5], [-5], [-5], [0]])
        self.assertEqual(last(EXAMPLE + [("explain", 0, 0)]), [1, 2, 1, 0, 1, 2])
        self.assertEqual(last(calls + [("group", 0)]), [0, 0, -1, 2, 0, 1, 2])
        self.assertEqual(last(calls + [("explain", 0, 0)]), [0])

    def test_entry_1_with_3_leaves_two_over(self):
        calls = EXAMPLE + [("pair", 0, [1, 3]), ("breaks", 0, 0), ("best", 0, 0)]
        self.assertEqual(ask(calls)[-3:], [[0], [1, 1, 0, 2], [2, 0, 0]])

    def test_what_the_books_differ_by(self):
        calls = EXAMPLE + [("run", 0, 0), ("balance", 0, 0), ("balance", 1, 0), ("gap", 0, 0), ("breaks", 0, 0)]
        self.assertEqual(ask(calls)[-4:], [[0, 150], [0, 201], [0, -51, -50, -1], [0, 1, 3]])
        self.assertEqual(last(EXAMPLE + [("gap", 0, 0)]), [0, -51, -51, 0])


class FitTest(unittest.TestCase):
    def test_nothing_is_open(self):
        self.assertEqual(best(0, 0, 1, [], []), [0, 0, 0])
        self.assertEqual(ask([("account", 0, 0, 0, 1), ("run", 0, 0)])[-1], [0, 0])

    def test_one_side_alone_does_not_fit(self):
        self.assertEqual(best(9, 1000000, 3, [(0, 5), (0, -5)], []), [2, 0, 0])
        self.assertEqual(best(9, 1000000, 3, [], [(0, 5), (0, -5)]), [2, 0, 0])

    def test_window_just_met_and_just_missed(self):
        for left, right in (([(10, 5)], [(13, 5)]), ([(13, 5)], [(10, 5)])):
            self.assertEqual(best(3, 0, 1, left, right), [0, 1, 0])
            self.assertEqual(best(2, 0, 1, left, right), [2, 0, 0])
        self.assertEqual(best(3, 0, 2, [(10, 5), (13, 7)], [(11, 12)]), [0, 1, 0])
        self.assertEqual(best(2, 0, 2, [(10, 5), (13, 7)], [(11, 12)]), [3, 0, 0])
        self.assertEqual(best(3, 0, 2, [(11, 12)], [(10, 5), (13, 7)]), [0, 1, 0])
        self.assertEqual(best(2, 0, 2, [(11, 12)], [(10, 5), (13, 7)]), [3, 0, 0])

    def test_the_ends_of_the_window(self):
        self.assertEqual(best(0, 0, 1, [(7, 5)], [(7, 5)]), [0, 1, 0])
        self.assertEqual(best(0, 0, 1, [(7, 5)], [(8, 5)]), [2, 0, 0])
        self.assertEqual(best(100, 0, 1, [(0, 5)], [(100, 5)]), [0, 1, 0])
        self.assertEqual(best(100, 0, 1, [(0, 5)], [(101, 5)]), [2, 0, 0])

    def test_tolerance_just_met_and_just_missed(self):
        for left, right in ((10, 13), (13, 10), (-10, -13), (-1, 2), (2, -1)):
            self.assertEqual(best(0, 3, 1, [(0, left)], [(0, right)]), [0, 1, 3])
            self.assertEqual(best(0, 2, 1, [(0, left)], [(0, right)]), [2, 0, 0])

    def test_the_ends_of_amounts_and_tolerance(self):
        most = 10 ** 12
        self.assertEqual(best(0, 1000000, 1, [(0, most)], [(0, most - 1000000)]), [0, 1, 1000000])
        self.assertEqual(best(0, 1000000, 1, [(0, most)], [(0, most - 1000001)]), [2, 0, 0])
        self.assertEqual(best(0, 0, 3, [(0, -most)] * 3, [(0, -most)] * 3), [0, 3, 0])
        self.assertEqual(best(0, 1000000, 1, [(0, -most)], [(0, most)]), [2, 0, 0])

    def test_sizes(self):
        for many in (2, 3, 4):
            for size in (1, 2, 3):
                told = [0, 1, 0] if many <= size else [many + 1, 0, 0]
                self.assertEqual(best(0, 0, size, [(0, 4)] * many, [(0, 4 * many)]), told)
                self.assertEqual(best(0, 0, size, [(0, 4 * many)], [(0, 4)] * many), told)

    def test_several_to_several(self):
        lefts, rights = [(0, 10), (0, 21)], [(0, 14), (0, 17)]
        self.assertEqual(best(0, 0, 2, lefts, rights), [0, 1, 0])
        self.assertEqual(best(0, 0, 1, lefts, rights), [4, 0, 0])
        lefts, rights = [(0, 1), (0, 10), (0, 100)], [(0, 30), (0, 37), (0, 44)]
        self.assertEqual(best(0, 0, 3, lefts, rights), [0, 1, 0])
        self.assertEqual(best(0, 0, 2, lefts, rights), [6, 0, 0])

    def test_amounts_below_0_within_one_group(self):
        self.assertEqual(best(0, 0, 2, [(0, 10), (0, -3)], [(0, 7)]), [0, 1, 0])

    def test_gaps_without_sign(self):
        self.assertEqual(best(0, 2, 1, [(0, 10), (5, 10)], [(0, 12), (5, 8)]), [0, 2, 4])


class BetterPlanTest(unittest.TestCase):
    def test_fewer_left_over_counts_before_more_groups(self):
        # 2 with 1 and 14 with 12 are two groups, but leave 5 over; all in one group leave none.
        lefts, rights = [(0, 2), (0, 14)], [(0, 5), (0, 1), (0, 12)]
        self.assertEqual(best(0, 2, 3, lefts, rights), [0, 1, 2])
        self.assertEqual(explained(0, 2, 3, lefts, rights), (1, 1, 1, 1, 1))
        self.assertEqual(best(0, 2, 2, lefts, rights), [1, 2, 3])
        self.assertEqual(explained(0, 2, 2, lefts, rights), (1, 2, 0, 1, 2))
        # The same with two groups against three.
        lefts, rights = [(0, 5), (0, 11), (0, 2), (0, 10)], [(0, 11), (0, 11), (0, 1)]
        self.assertEqual(best(0, 3, 2, lefts, rights), [0, 2, 5])
        self.assertEqual(explained(0, 3, 2, lefts, rights), (1, 2, 2, 1, 1, 2, 1))

    def test_fewer_left_over_counts_before_less_gaps(self):
        self.assertEqual(best(0, 4, 1, [(0, 10), (0, 14)], [(0, 10), (0, 18)]), [0, 2, 4])
        # 10 with 10 alone has no gap, but leaves 14 and 6 over.
        self.assertEqual(best(0, 4, 1, [(0, 10), (0, 14)], [(0, 10), (0, 6)]), [0, 2, 8])

    def test_more_groups_count_before_less_gaps(self):
        # As one group these have no gap.
        lefts, rights = [(0, 10), (0, 20)], [(0, 11), (0, 19)]
        self.assertEqual(best(0, 0, 2, lefts, rights), [0, 1, 0])
        self.assertEqual(best(0, 1, 2, lefts, rights), [0, 2, 2])

    def test_less_gaps_count_before_the_row_of_labels(self):
        lefts, rights = [(0, 10), (0, 12)], [(0, 12), (0, 10)]
        self.assertEqual(explained(0, 2, 1, lefts, rights), (1, 2, 2, 1))
        self.assertEqual(best(0, 2, 1, lefts, rights), [0, 2, 0])
        self.assertEqual(explained(0, 2, 1, [(0, 11), (0, 10)], [(0, 10)]), (0, 1, 1))
        self.assertEqual(explained(0, 2, 1, [(0, 10), (0, 11)], [(0, 10)]), (1, 0, 1))

    def test_the_lesser_row_of_labels(self):
        self.assertEqual(explained(0, 0, 1, [(0, 5)] * 2, [(0, 5)]), (0, 1, 1))
        self.assertEqual(explained(0, 0, 1, [(0, 5)], [(0, 5)] * 2), (1, 0, 1))
        self.assertEqual(explained(0, 0, 1, [(0, 5)] * 2, [(0, 5)] * 2), (1, 2, 1, 2))
        self.assertEqual(explained(0, 0, 3, [(0, 5)] * 3, [(0, 5), (0, 10)]), (1, 1, 2, 2, 1))

    def test_the_lesser_row_of_labels_with_many_groups(self):
        # The gaps are together the same whoever is with whom, as all right amounts are above the left ones.
        lefts, rights = [(0, 5), (0, 1), (0, 3), (0, 2), (0, 4)], [(0, 6), (0, 9), (0, 7), (0, 8), (0, 6)]
        self.assertEqual(explained(0, 5, 1, lefts, rights), (1, 2, 3, 4, 5, 1, 5, 4, 3, 2))
        self.assertEqual(best(0, 5, 1, lefts, rights), [0, 5, 21])
        lefts, rights = [(0, 3), (0, 1), (0, 3)], [(0, 3), (0, 1), (0, 1)]
        self.assertEqual(explained(0, 2, 2, lefts, rights), (1, 2, 3, 1, 2, 3))
        lefts, rights = [(0, 1), (0, 5), (1, 2), (1, 2), (2, 1)], [(0, 4), (1, 4), (1, 5), (2, 1)]
        self.assertEqual(explained(1, 3, 2, lefts, rights), (1, 2, 1, 3, 4, 1, 3, 2, 4))

    def test_left_labels_count_before_right_ones(self):
        # If 10 were with the first right one, the right labels would be less, but the left ones more.
        lefts, rights = [(0, 5), (0, 5), (0, 10)], [(0, 10), (0, 10)]
        self.assertEqual(explained(0, 0, 2, lefts, rights), (1, 1, 2, 1, 2))

    def test_a_label_0_is_less_than_any_number(self):
        lefts, rights = [(0, 5), (0, 6), (0, 5)], [(0, 5), (0, 6)]
        self.assertEqual(explained(0, 0, 1, lefts, rights), (0, 1, 2, 2, 1))

    def test_an_entry_that_came_later_with_an_earlier_day(self):
        self.assertEqual(explained(5, 0, 1, [(3, 5), (1, 5)], [(2, 5)]), (0, 1, 1))
        calls = small_fund(0, 5, 0, 1, [(3, 5), (1, 5)], [(2, 5)]) + [("run", 0, 0)]
        self.assertEqual([last(calls + [("take", place)]) for place in range(3)], [[-5], [0], [-5]])

    def test_entries_of_the_same_day_stand_as_they_came(self):
        calls = small_fund(0, 5, 0, 1, [(3, 5), (3, 5), (3, 5)], [(3, 5)]) + [("run", 0, 0)]
        self.assertEqual([last(calls + [("take", place)]) for place in range(3)], [[0], [0], [-5]])

    def compare(self, chance, many_lefts, many_rights):
        window, tolerance, size = chance.randrange(4), chance.choice((0, 1, 3, 50)), chance.randrange(1, 4)
        span, signs = chance.choice((4, 30)), (-1, 1, 1)
        rows = [
            sorted([(chance.randrange(5), chance.choice(signs) * chance.randrange(1, span)) for n in range(many)],
                   key=lambda row: row[0])
            for many in (many_lefts, many_rights)
        ]
        self.compare_rows(window, tolerance, size, rows)

    def compare_alike(self, chance, many_lefts, many_rights):
        """Few amounts and days, so that many plans are as good but for their rows of labels."""
        window, tolerance, size = chance.choice((1, 2, 2)), chance.choice((1, 2, 2)), chance.randrange(1, 4)
        rows = [
            sorted([(chance.randrange(3), chance.randrange(1, 4)) for n in range(many)], key=lambda row: row[0])
            for many in (many_lefts, many_rights)
        ]
        self.compare_rows(window, tolerance, size, rows)

    def compare_rows(self, window, tolerance, size, rows):
        told = plain_best(rows[0], rows[1], window, tolerance, size)
        with self.subTest(window=window, tolerance=tolerance, size=size, rows=rows):
            self.assertEqual(best(window, tolerance, size, *rows), [told[0], -told[1], told[2]])
            self.assertEqual(explained(window, tolerance, size, *rows), told[3])

    def test_against_a_plain_search_over_all_plans(self):
        chance = random.Random(20)
        for _ in range(400):
            self.compare(chance, chance.randrange(4), chance.randrange(4))
        for _ in range(60):
            self.compare(chance, 4, 4)

    def test_against_a_plain_search_where_many_plans_are_alike(self):
        chance = random.Random(22)
        for _ in range(150):
            self.compare_alike(chance, 3, 3)
        for _ in range(60):
            self.compare_alike(chance, 4, 4)
        for _ in range(20):
            self.compare_alike(chance, *chance.choice(((5, 3), (3, 5), (4, 5), (5, 4))))

    def test_against_a_plain_search_at_5_and_5(self):
        chance = random.Random(21)
        for _ in range(12):
            self.compare(chance, 5, 5)
        for size in (1, 2, 3):
            told = plain_best([(0, 1)] * 5, [(0, 1)] * 5, 0, 9, size)
            self.assertEqual(explained(0, 9, size, [(0, 1)] * 5, [(0, 1)] * 5), told[3])
            told = plain_best([(0, 1)] * 5, [(0, 2)] * 5, 0, 0, size)
            self.assertEqual(explained(0, 0, size, [(0, 1)] * 5, [(0, 2)] * 5), told[3])


class RunTest(unittest.TestCase):
    def test_groups_are_made_in_the_order_of_their_first_left_entries(self):
        lefts = [(4, 30), (0, 3), (0, 4), (2, 20)]
        rights = [(2, 20), (4, 30), (0, 7)]
        calls = small_fund(0, 0, 0, 2, lefts, rights) + [("run", 0, 0)]
        self.assertEqual(last(calls), [3, 0])
        self.assertEqual(ask(calls + [("unpair", n) for n in range(3)])[-3:], [[3], [2], [2]])
        self.assertEqual(ask(calls + [("unpair", 1), ("take", 3), ("take", 4)])[-2:], [[0], [0]])
        self.assertEqual(ask(calls + [("unpair", 2), ("take", 0), ("take", 5)])[-2:], [[0], [0]])

    def test_entries_of_a_group_stand_in_their_order(self):
        calls = [("account", 0, 3, 0, 3)]
        for day, amount in ((3, 1), (1, 2), (2, 3)):
            calls += entries(0, 0, [(day, amount)]) + entries(1, 0, [(3 - day, 2)])
        self.assertEqual(ask(calls + [("run", 0, 0), ("group", 0), ("group", 1)])[-2:],
                         [[0, 0, 0, 1, 2, 1], [0, 0, 0, 2, 4, 0, 5, 3]])

    def test_open_ones_alone(self):
        calls = EXAMPLE + [("pair", 0, [1, 3])]
        self.assertEqual(last(calls + [("best", 0, 0)]), [2, 0, 0])
        self.assertEqual(last(calls + [("unpair", 0), ("best", 0, 0)]), [1, 1, 1])
        self.assertEqual(last(EXAMPLE + [("take", 2), ("run", 0, 0)]), [1, 1])
        self.assertEqual(last(EXAMPLE + [("take", 2), ("explain", 0, 0)]), [1, 1, 1, 1, 3])

    def test_each_pair_has_open_ones_of_its_own(self):
        calls = [("account", 1, 0, 0, 1)] + [("entry", book, 1, 0, 5, 0) for book in (2, 1, 0)]
        calls += [("run", p, 1) for p in range(3)]
        self.assertEqual(ask(calls)[-3:], [[1, 0]] * 3)
        self.assertEqual(ask(calls + [("best", p, 1) for p in range(3)])[-3:], [[0, 0, 0]] * 3)

    def test_the_left_book_of_each_pair(self):
        for p, left, right in ((0, 0, 1), (1, 0, 2), (2, 1, 2)):
            calls = [("account", 0, 0, 0, 1)] + entries(right, 0, [(0, 5)]) + entries(left, 0, [(0, 5), (0, 5)])
            calls += [("run", p, 0)]
            self.assertEqual([last(calls + [("take", place)]) for place in range(3)], [[-5], [0], [-5]])

    def test_best_changes_nothing(self):
        calls = EXAMPLE + [("best", 0, 0), ("best", 0, 0), ("pair", 0, [1, 3]), ("take", 0)]
        self.assertEqual(ask(calls)[-4:], [[1, 1, 1], [1, 1, 1], [0], [0]])

    def test_refusals_and_their_order(self):
        six = small_fund(0, 0, 0, 1, [(0, 5)] * 6, [(0, 5)])
        for name in ("run", "best", "explain"):
            for a in (1, -1, 4, LOWEST, HIGHEST):
                refused(self, EXAMPLE, (name, 0, a), -2)
                refused(self, EXAMPLE, (name, 3, a), -2)
            for p in (-1, 3, LOWEST, HIGHEST):
                refused(self, EXAMPLE, (name, p, 0), -1)
                refused(self, six, (name, p, 0), -1)
            refused(self, six, (name, 0, 1), -2)

    def test_5_and_6_open_on_one_side(self):
        for lefts, rights in ((5, 6), (6, 5), (6, 0), (0, 6), (6, 6)):
            calls = small_fund(0, 0, 0, 1, [(0, 5)] * lefts, [(0, 5)] * rights)
            refused(self, calls, ("run", 0, 0), -8)
            refused(self, calls, ("best", 0, 0), -8)
            refused(self, calls, ("explain", 0, 0), -8)
        calls = small_fund(0, 0, 0, 1, [(0, 5)] * 5, [(0, 5)] * 5)
        self.assertEqual(last(calls + [("explain", 0, 0)]), [5] + [x for n in range(5) for x in (1, 1, n, n + 5)])
        self.assertEqual(ask(calls + [("best", 0, 0), ("run", 0, 0)])[-2:], [[0, 5, 0], [5, 0]])

    def test_6_of_which_5_are_open(self):
        calls = small_fund(0, 0, 0, 1, [(0, 5)] * 6, [(0, 5)] * 6)
        refused(self, calls + [("take", 0)], ("best", 0, 0), -8)
        refused(self, calls + [("take", 0)], ("explain", 0, 0), -8)
        self.assertEqual(last(calls + [("take", 0), ("take", 6), ("explain", 0, 0)])[:5], [5, 1, 1, 1, 7])
        self.assertEqual(last(calls + [("take", 0), ("take", 6), ("best", 0, 0)]), [0, 5, 0])
        self.assertEqual(last(calls + [("pair", 0, [0, 6]), ("best", 0, 0)]), [0, 5, 0])
        refused(self, calls + [("pair", 0, [0, 6]), ("unpair", 0)], ("best", 0, 0), -8)
        self.assertEqual(last(calls + [("pair", 0, [0, 6]), ("best", 1, 0)]), [-8])

    def test_three_hundred_groups(self):
        calls = nearly_full(2) + [("unpair", group) for group in (197, 196)]
        self.assertEqual(last(calls + [("run", 2, 0)]), [2, 0])
        calls += [("unpair", 195)]
        refused(self, calls, ("run", 2, 0), -3)
        self.assertEqual(last(calls + [("best", 2, 0)]), [0, 3, 0])
        self.assertEqual(last(calls + [("explain", 2, 0)]), [3, 1, 1, 129, 195, 1, 1, 130, 196, 1, 1, 131, 197])
        self.assertEqual(last(calls + [("account", 0, 0, 0, 3), ("run", 2, 0)]), [-3])

    def test_three_hundred_groups_and_none_more_to_make(self):
        full = nearly_full(0)
        self.assertEqual(last(full + [("run", 2, 0)]), [0, 0])
        self.assertEqual(last(full + [("entry", 2, 0, 0, 999, 0), ("run", 2, 0)]), [0, 1])

    def test_three_hundred_counts_last(self):
        full = nearly_full(0) + [("unpair", group) for group in range(192, 198)]
        refused(self, full, ("run", 2, 1), -2)
        refused(self, full, ("run", 3, 0), -1)
        refused(self, full, ("run", 2, 0), -8)


class ExplainTest(unittest.TestCase):
    def explain(self, *given):
        return last(small_fund(0, *given) + [("explain", 0, 0)])

    def test_nothing_is_open_or_fits(self):
        self.assertEqual(self.explain(0, 0, 1, [], []), [0])
        self.assertEqual(self.explain(9, 1000000, 3, [(0, 5), (0, 6)], []), [0])
        self.assertEqual(self.explain(9, 1000000, 3, [], [(0, 5), (0, 6)]), [0])
        self.assertEqual(self.explain(0, 0, 3, [(0, 5)], [(0, 6)]), [0])

    def test_in_the_order_of_their_first_left_entries(self):
        lefts, rights = [(4, 30), (0, 3), (2, 20), (0, 4)], [(2, 20), (4, 30), (0, 7)]
        self.assertEqual(self.explain(0, 0, 2, lefts, rights), [3, 2, 1, 1, 3, 6, 1, 1, 2, 4, 1, 1, 0, 5])

    def test_entries_of_a_group_stand_in_their_order(self):
        told = self.explain(4, 0, 3, [(4, 10), (1, 200), (4, 4)], [(3, 113), (2, 1), (1, 100)])
        self.assertEqual(told, [1, 3, 3, 1, 0, 2, 5, 4, 3])

    def test_entries_of_one_day_stand_as_they_came(self):
        self.assertEqual(self.explain(0, 0, 3, [(3, 2), (3, 1), (3, 4)], [(3, 7)]), [1, 3, 1, 0, 1, 2, 3])
        self.assertEqual(self.explain(0, 0, 1, [(3, 5)] * 3, [(3, 5)] * 2), [2, 1, 1, 1, 3, 1, 1, 2, 4])

    def test_one_that_came_later_with_an_earlier_day(self):
        calls = small_fund(0, 9, 0, 1, [(3, 5)], [(3, 5)]) + entries(0, 0, [(2, 5)])
        self.assertEqual(last(calls + [("explain", 0, 0)]), [1, 1, 1, 0, 1])
        self.assertEqual(last(calls + entries(1, 0, [(2, 5)]) + [("explain", 0, 0)]), [2, 1, 1, 2, 3, 1, 1, 0, 1])

    def test_each_pair_and_each_account(self):
        calls = [("account", 2, 0, 0, 1)] + [("entry", book, 2, 0, 5, 0) for book in (2, 1, 0)]
        self.assertEqual(ask(calls + [("explain", p, 2) for p in range(3)])[-3:],
                         [[1, 1, 1, 2, 1], [1, 1, 1, 2, 0], [1, 1, 1, 1, 0]])
        calls += [("account", 0, 0, 0, 1), ("run", 1, 2)]
        self.assertEqual(ask(calls + [("explain", 0, 0), ("explain", 0, 2), ("explain", 1, 2)])[-3:],
                         [[0], [1, 1, 1, 2, 1], [0]])

    def test_an_account_told_anew(self):
        self.assertEqual(last(EXAMPLE + [("account", 0, 2, 1, 1), ("explain", 0, 0)]), [1, 1, 1, 1, 3])
        self.assertEqual(last(EXAMPLE + [("account", 0, 2, 51, 1), ("explain", 0, 0)]), [2, 1, 1, 0, 2, 1, 1, 1, 3])
        calls = EXAMPLE + [("run", 0, 0), ("account", 0, 2, 0, 3), ("entry", 0, 0, 3, 50, 0), ("explain", 0, 0)]
        self.assertEqual(last(calls), [1, 1, 1, 4, 3])

    def test_today_does_not_matter(self):
        self.assertEqual(last(EXAMPLE + [("tick", 1000), ("explain", 0, 0)]), [1, 2, 1, 0, 1, 2])

    def test_three_hundred_groups_do_not_matter(self):
        full = nearly_full(0) + [("unpair", 197)]
        self.assertEqual(ask(full + [("explain", 2, 0), ("run", 2, 0)])[-2:], [[1, 1, 1, 131, 197], [-3]])

    def test_changes_nothing(self):
        self.assertEqual(changes_nothing(self, EXAMPLE, ("explain", 0, 0)), [1, 2, 1, 0, 1, 2])
        self.assertEqual(changes_nothing(self, EXAMPLE, ("best", 0, 0)), [1, 1, 1])


if __name__ == "__main__":
    unittest.main()
