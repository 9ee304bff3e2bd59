"""The interface and what holds for every call."""

import io
import time
import unittest
from contextlib import redirect_stderr, redirect_stdout

from tests.helper import ask, entries, last, line, probes, small_fund
from threebooks.books import answers

EXAMPLE = small_fund(0, 2, 1, 2, [(1, 100), (2, 50)], [(2, 151), (3, 50)])


class FormTest(unittest.TestCase):
    def test_numbers_of_the_calls_and_form_of_the_answers(self):
        calls = [
            1, 0, 2, 1, 2,
            2, 0, 0, 1, 100, 7,
            2, 1, 0, 1, 100, 7,
            2, 1, 0, 1, 50, 0,
            8, 0, 0,
            7, 0, 0,
            5, 0,
            4, 0, 2, 1, 0,
            5, 1,
            6, 0, 0,
            9, 0, 3,
            9, 0, 2,
            3, 2,
            3, 9,
            0,
            3, 0,
        ]
        self.assertEqual(answers(calls), [
            1, 0,
            1, 0,
            1, 1,
            1, 2,
            3, 1, 1, 0,
            2, 1, 1,
            1, 2,
            1, 1,
            1, 2,
            1, 1,
            1, -4,
            2, 3, 3,
            1, -5,
            1, -4,
            1, 0,
            1, -4,
        ])

    def test_numbers_of_the_calls_from_10_on(self):
        calls = [
            1, 0, 2, 1, 2,
            2, 0, 0, 1, 100, 7,
            2, 1, 0, 1, 101, 8,
            2, 1, 0, 2, 50, 0,
            10, 2,
            17, 0, 0,
            4, 0, 2, 1, 0,
            11, 1,
            12, 0,
            13, 0, 0,
            14, 1, 0,
            15, 0, 0,
            16, 0, 0, 0,
            18,
            10, 0,
            11, 3,
            12, 1,
            13, 3, 0,
            14, 0, 1,
            15, 0, 1,
            16, 0, 0, -1,
            17, 0, 1,
            0,
            18,
        ]
        self.assertEqual(answers(calls), [
            1, 0,
            1, 0,
            1, 1,
            1, 2,
            1, 2,
            5, 1, 1, 1, 0, 1,
            1, 0,
            8, 1, 0, 1, 101, 8, 0, -1, -1,
            6, 0, 0, -1, 1, 0, 1,
            3, 0, 1, 2,
            2, 0, 151,
            4, 0, -51, -50, -1,
            2, 1, 2,
            5, 2, 3, 3, 1, 1,
            1, -1,
            1, -4,
            1, -4,
            1, -1,
            1, -2,
            1, -2,
            1, -1,
            1, -2,
            1, 0,
            5, 0, 0, 0, 0, 0,
        ])

    def test_a_row_of_no_numbers_has_its_count_alone(self):
        self.assertEqual(answers([4, 0, 0, 0]), [1, -5, 1, 0])

    def test_one_call_is_a_line(self):
        self.assertEqual(answers([0]), [1, 0])

    def test_kinds(self):
        calls = EXAMPLE + [("best", 0, 0), ("explain", 0, 0), ("run", 0, 0), ("group", 0), ("entryat", 0)]
        calls += [("breaks", 0, 0), ("balance", 0, 0), ("gap", 0, 0), ("tick", 3), ("aged", 0, 0, 0), ("counts",)]
        told = answers(line(calls + [("unpair", 0), ("take", 0), ("take", 0)]))
        self.assertIs(type(told), list)
        for number in told:
            self.assertIs(type(number), int)

    def test_at_the_beginning_nothing_is_there(self):
        self.assertEqual(ask([("take", 0)]), [[-4]])
        self.assertEqual(ask([("unpair", 0)]), [[-4]])
        self.assertEqual(ask([("pair", 0, [0])]), [[-5]])
        self.assertEqual(ask([("mirror", 0, 0)]), [[-4]])
        self.assertEqual(ask([("entryat", 0)]), [[-4]])
        self.assertEqual(ask([("group", 0)]), [[-4]])
        self.assertEqual(ask([("counts",)]), [[0, 0, 0, 0, 0]])
        self.assertEqual(ask([("tick", 1)]), [[1]])
        for a in range(4):
            self.assertEqual(ask([("entry", 0, a, 0, 1, 0)]), [[-2]])
            self.assertEqual(ask([("aged", 0, a, 0)]), [[-2]])
            for name in ("byref", "run", "best", "breaks", "balance", "gap", "explain"):
                self.assertEqual(ask([(name, 0, a)]), [[-2]])

    def test_prints_nothing(self):
        with redirect_stdout(io.StringIO()) as out, redirect_stderr(io.StringIO()) as err:
            ask(EXAMPLE + probes())
        self.assertEqual(out.getvalue() + err.getvalue(), "")


class Watched(list):
    """A list that tells of every change."""

    def changed(self, *given):
        raise AssertionError("the list that was handed in is changed")

    append = extend = insert = pop = remove = clear = sort = reverse = changed
    __setitem__ = __delitem__ = __iadd__ = __imul__ = changed


class NothingKeptTest(unittest.TestCase):
    calls = EXAMPLE + [("tick", 5), ("pair", 0, [1, 3]), ("run", 0, 0), ("mirror", 0, 0), ("byref", 0, 0), ("take", 2)]
    calls += probes() + [("clear",)] + EXAMPLE + [("tick", 2)] + probes()

    def test_what_is_handed_in_is_as_it_was(self):
        numbers = line(self.calls)
        before = list(numbers)
        answers(numbers)
        self.assertEqual(numbers, before)

    def test_what_is_handed_in_is_not_changed_for_a_while_either(self):
        self.assertEqual(answers(Watched(line(self.calls))), answers(line(self.calls)))

    def test_the_same_line_asked_twice_answers_the_same(self):
        self.assertEqual(ask(self.calls), ask(self.calls))

    def test_what_is_given_back_is_not_kept(self):
        first = answers(line(self.calls))
        copy = list(first)
        first.clear()
        self.assertEqual(answers(line(self.calls)), copy)


class ClearTest(unittest.TestCase):
    def test_all_is_as_at_the_beginning(self):
        calls = EXAMPLE + [("account", 3, 1, 1, 1), ("run", 0, 0), ("take", 3), ("tick", 9), ("clear",)]
        found = ask(calls + probes())
        self.assertEqual(found[len(calls) - 1], [0])
        self.assertEqual(found[len(calls):], ask(probes()))

    def test_places_begin_anew(self):
        found = ask(EXAMPLE + [("run", 0, 0), ("clear",)] + EXAMPLE + [("run", 0, 0), ("counts",), ("unpair", 0)])
        self.assertEqual(found[8:12], [[0], [1], [2], [3]])
        self.assertEqual(found[-3:], [[1, 1], [0, 4, 4, 1, 1], [3]])

    def test_two_hundred_entries_may_come_anew(self):
        many = [("account", 0, 0, 0, 1)] + entries(0, 0, [(0, 1)] * 150) + [("clear",)]
        self.assertEqual(last(many + [("account", 0, 0, 0, 1)] + entries(0, 0, [(0, 1)] * 100)), [99])


class TimeTest(unittest.TestCase):
    def in_good_time(self, calls):
        self.assertLessEqual(len(calls), 400)
        begun = time.process_time()
        found = ask(calls)
        self.assertLess(time.process_time() - begun, 20)
        return found

    def test_twenty_searches_where_all_fits(self):
        calls = []
        for a in range(4):
            calls += small_fund(a, 100, 1000000, 3, [(0, 1)] * 5, [(0, 1)] * 5)
        calls += [("best", 0, a % 4) for a in range(16)] + [("run", 0, a) for a in range(4)]
        calls += [("pair", 0, [0])] * (400 - len(calls))
        found = self.in_good_time(calls)
        self.assertEqual(found[44:60], [[0, 5, 0]] * 16)
        self.assertEqual(found[60:64], [[5, 0]] * 4)

    def test_twenty_searches_of_each_kind(self):
        calls = small_fund(0, 100, 1000000, 3, [(n, 3 ** n) for n in range(5)], [(n, 2 + 3 ** n) for n in range(5)])
        for _ in range(6):
            calls += [("best", 0, 0), ("explain", 0, 0), ("run", 0, 0)]
            calls += [("gap", 0, 0), ("breaks", 0, 0), ("counts",)]
            made = 5 * (len([call for call in calls if call[0] == "run"]) - 1)
            calls += [("unpair", made + number) for number in range(5)]
        calls += [("explain", 0, 0)] * 2
        calls += [("aged", 0, 0, 0)] * (400 - len(calls))
        found = self.in_good_time(calls)
        plan = [5] + [x for n in range(5) for x in (1, 1, n, n + 5)]
        self.assertEqual(found[11:16], [[0, 5, 10], plan, [5, 0], [0, -10, 0, -10], [0, 0]])
        self.assertEqual([found[at] for at, call in enumerate(calls) if call[0] == "explain"], [plan] * 8)
        self.assertEqual(found[-1], [2, 0, 5])

    def test_twenty_searches_where_amounts_are_unlike(self):
        lefts = [(day, 1000 + 37 * day * day) for day in range(5)]
        rights = [(day, 990 + 41 * day * day) for day in range(5)]
        calls = small_fund(0, 100, 1000000, 3, lefts, rights)
        calls += [("best", 0, 0), ("run", 0, 0)] + [("unpair", group) for group in range(5)]
        calls += [("best", 0, 0)] * 18
        found = self.in_good_time(calls)
        self.assertEqual(found[11][:2], [0, 5])
        self.assertEqual(found[-18:], [found[11]] * 18)

    def test_asks_with_two_hundred_entries(self):
        calls = [("account", 0, 0, 0, 1)] + entries(0, 0, [(0, 5)] * 100) + entries(1, 0, [(0, 5)] * 100)
        calls += [("breaks", 0, 0), ("aged", 0, 0, 0), ("gap", 0, 0), ("counts",)] * 49
        calls += [("balance", 0, 0)] * (400 - len(calls))
        found = self.in_good_time(calls)
        self.assertEqual(found[201:203], [[100, 100, *range(200)], [200, *range(200)]])
        self.assertEqual(found[203:205], [[0, 0, 0, 0], [0, 200, 200, 0, 0]])
        self.assertEqual(found[-1], [0, 500])

    def test_four_hundred_calls_with_two_hundred_entries(self):
        calls = [("account", 0, 100, 1000000, 3)]
        calls += entries(0, 0, [(day, 5, 1 + day) for day in range(100)])
        calls += entries(1, 0, [(day, 6, 1 + day) for day in range(100)])
        calls += [("byref", 0, 0)] * 100 + [("pair", 0, list(range(100)))] * 50 + [("run", 0, 0)] * 20
        calls += [("mirror", 1, 0)] * (400 - len(calls))
        found = self.in_good_time(calls)
        self.assertEqual(found[201:301], [[0]] * 100)
        self.assertEqual(found[301:351], [[-6]] * 50)
        self.assertEqual(found[351:371], [[-8]] * 20)
        self.assertEqual(found[371:], [[-3]] * 29)


if __name__ == "__main__":
    unittest.main()
