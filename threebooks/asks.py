"""The calls that only ask: each gives back the list of its answer's numbers."""

from threebooks.checks import plan_refusal, range_refusal, within
from threebooks.fund import LAST_DAY, PAIR_BOOKS, gap_of
from threebooks.plans import plan_for
from threebooks.refusals import NOT_THERE, OUT_OF_RANGE


def places_of(entries):
    return [entry.place for entry in entries]


def ask_best(fund, p, a):
    refusal = plan_refusal(fund, p, a)
    if refusal != 0:
        return [refusal]
    plan = plan_for(fund, p, a)
    return [fund.how_many_open(p, a) - plan.grouped(), len(plan.fits), plan.gaps()]


def ask_entry(fund, place):
    entry = fund.entry_at(place)
    if entry is None:
        return [NOT_THERE]
    return [entry.book, entry.account, entry.day, entry.amount, entry.reference] + entry.in_groups


def ask_group(fund, place):
    group = fund.group_at(place)
    if group is None:
        return [NOT_THERE]
    ahead = [group.pair, group.account, gap_of(group.left, group.right), len(group.left)]
    return ahead + places_of(group.left + group.right)


def ask_breaks(fund, p, a):
    refusal = range_refusal(fund, p, a)
    if refusal != 0:
        return [refusal]
    lefts = fund.open_left(p, a)
    rights = fund.open_right(p, a)
    return [len(lefts), len(rights)] + places_of(lefts + rights)


def ask_balance(fund, book, a):
    refusal = range_refusal(fund, book, a)
    if refusal != 0:
        return [refusal]
    return [0, fund.balance(book, a)]


def ask_gap(fund, p, a):
    refusal = range_refusal(fund, p, a)
    if refusal != 0:
        return [refusal]
    books_differ_by = fund.balance(PAIR_BOOKS[p][0], a) - fund.balance(PAIR_BOOKS[p][1], a)
    still_open = gap_of(fund.open_left(p, a), fund.open_right(p, a))
    let_pass = sum([gap_of(group.left, group.right) for group in fund.groups_that_hold(p, a)])
    return [0, books_differ_by, still_open, let_pass]


def ask_aged(fund, p, a, n):
    refusal = range_refusal(fund, p, a)
    if refusal != 0:
        return [refusal]
    if not within(n, 0, LAST_DAY):
        return [OUT_OF_RANGE]
    either = fund.open_left(p, a) + fund.open_right(p, a)
    aged = [entry for entry in either if entry.day + n <= fund.today]
    return [len(aged)] + places_of(aged)


def ask_explain(fund, p, a):
    refusal = plan_refusal(fund, p, a)
    if refusal != 0:
        return [refusal]
    plan = plan_for(fund, p, a)
    told = [len(plan.fits)]
    for fit in plan.fits:
        told.extend([len(fit.left), len(fit.right)])
        told.extend(places_of(fit.left + fit.right))
    return told


def ask_counts(fund):
    there = [entry for entry in fund.entries if entry.there]
    holding = [group for group in fund.groups if group.holds]
    return [fund.today, len(fund.entries), len(there), len(fund.groups), len(holding)]
