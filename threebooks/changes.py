"""The calls that change the fund: each gives back the list of its answer's numbers."""

from threebooks.checks import plan_refusal, range_refusal, within
from threebooks.fund import LAST_DAY, PAIR_BOOKS, Account, gap_of
from threebooks.plans import plan_for
from threebooks.refusals import FULL, GAP_TOO_WIDE, NO_ACCOUNT, NOT_FREE, NOT_THERE, ONE_BOOK, OUT_OF_RANGE

MOST_AMOUNT = 1000000000000


def clear_all(fund):
    fund.begin()
    return [0]


def tell_account(fund, a, window, tolerance, size):
    if not (within(a, 0, 3) and within(window, 0, 100)):
        return [OUT_OF_RANGE]
    if not (within(tolerance, 0, 1000000) and within(size, 1, 3)):
        return [OUT_OF_RANGE]
    fund.accounts[a] = Account(window, tolerance, size)
    return [0]


def write_entry(fund, book, a, day, amount, reference):
    if a not in fund.accounts:
        return [NO_ACCOUNT]
    if not (within(book, 0, 2) and within(day, 0, LAST_DAY) and within(reference, 0, 1000000)):
        return [OUT_OF_RANGE]
    if amount == 0 or not within(amount, -MOST_AMOUNT, MOST_AMOUNT):
        return [OUT_OF_RANGE]
    if not fund.has_room_for_entry():
        return [FULL]
    return [fund.add_entry(book, a, day, amount, reference).place]


def take_entry(fund, place):
    entry = fund.entry_at(place)
    if entry is None:
        return [NOT_THERE]
    if not all([entry.is_open(pair) for pair in range(len(PAIR_BOOKS))]):
        return [NOT_FREE]
    entry.there = False
    return [0]


def may_be_group(entries, pair):
    if not entries or any([entry is None for entry in entries]):
        return False
    for entry in entries:
        if entry.account != entries[0].account or entry.book not in PAIR_BOOKS[pair]:
            return False
        if not entry.is_open(pair):
            return False
    return True


def pair_entries(fund, p, places):
    if not within(p, 0, 2) or any([place < 0 for place in places]):
        return [OUT_OF_RANGE]
    entries = [fund.entry_at(place) for place in places]
    if not may_be_group(entries, p) or len(set(places)) < len(places):
        return [NOT_FREE]
    left = [entry for entry in entries if entry.book == PAIR_BOOKS[p][0]]
    right = [entry for entry in entries if entry.book == PAIR_BOOKS[p][1]]
    if not left or not right:
        return [ONE_BOOK]
    if abs(gap_of(left, right)) > fund.accounts[left[0].account].tolerance:
        return [GAP_TOO_WIDE]
    if not fund.has_room_for_groups(1):
        return [FULL]
    return [fund.add_group(p, left, right)]


def unpair_group(fund, place):
    group = fund.group_at(place)
    if group is None:
        return [NOT_THERE]
    fund.undo_group(group)
    return [len(group.left) + len(group.right)]


def first_alike(entry, others):
    for other in others:
        if other.reference == entry.reference and other.amount == entry.amount:
            return other
    return None


def reference_matches(lefts, rights):
    matches = []
    free = list(rights)
    for left in lefts:
        right = first_alike(left, free)
        if left.reference != 0 and right is not None:
            matches.append((left, right))
            free.remove(right)
    return matches


def pair_by_reference(fund, p, a):
    refusal = range_refusal(fund, p, a)
    if refusal != 0:
        return [refusal]
    matches = reference_matches(fund.open_left(p, a), fund.open_right(p, a))
    if not fund.has_room_for_groups(len(matches)):
        return [FULL]
    for left, right in matches:
        fund.add_group(p, [left], [right])
    return [len(matches)]


def run_plan(fund, p, a):
    refusal = plan_refusal(fund, p, a)
    if refusal != 0:
        return [refusal]
    plan = plan_for(fund, p, a)
    if not fund.has_room_for_groups(len(plan.fits)):
        return [FULL]
    for fit in plan.fits:
        fund.add_group(p, fit.left, fit.right)
    return [len(plan.fits), fund.how_many_open(p, a)]


def mirror_entry(fund, p, place):
    if not within(p, 0, 2):
        return [OUT_OF_RANGE]
    entry = fund.entry_at(place)
    if entry is None:
        return [NOT_THERE]
    if entry.book not in PAIR_BOOKS[p] or not entry.is_open(p):
        return [NOT_FREE]
    if not fund.has_room_for_entry() or not fund.has_room_for_groups(1):
        return [FULL]
    is_left = entry.book == PAIR_BOOKS[p][0]
    other_book = PAIR_BOOKS[p][1] if is_left else PAIR_BOOKS[p][0]
    image = fund.add_entry(other_book, entry.account, entry.day, entry.amount, entry.reference)
    if is_left:
        return [image.place, fund.add_group(p, [entry], [image])]
    return [image.place, fund.add_group(p, [image], [entry])]


def tick_days(fund, n):
    if not within(n, 1, 1000):
        return [OUT_OF_RANGE]
    if fund.today + n > LAST_DAY:
        return [FULL]
    fund.today = fund.today + n
    return [fund.today]
