"""The interface: one list of calls is handed in, one list of their answers is given back."""

from threebooks.asks import ask_aged, ask_balance, ask_best, ask_breaks, ask_counts, ask_entry, ask_explain
from threebooks.asks import ask_gap, ask_group
from threebooks.changes import clear_all, mirror_entry, pair_by_reference, pair_entries, run_plan
from threebooks.changes import take_entry, tell_account, tick_days, unpair_group, write_entry
from threebooks.fund import Fund

CLEAR = 0
ACCOUNT = 1
ENTRY = 2
TAKE = 3
PAIR = 4
UNPAIR = 5
BYREF = 6
RUN = 7
BEST = 8
MIRROR = 9
TICK = 10
ENTRYAT = 11
GROUP = 12
BREAKS = 13
BALANCE = 14
GAP = 15
AGED = 16
EXPLAIN = 17
COUNTS = 18

# How many whole numbers stand behind each call's number, ahead of its row.
HOW_MANY = (0, 4, 5, 1, 1, 1, 2, 2, 2, 2, 1, 1, 1, 2, 2, 2, 3, 2, 0)


def answer_change(fund, number, given, row):
    if number == CLEAR:
        return clear_all(fund)
    if number == ACCOUNT:
        return tell_account(fund, given[0], given[1], given[2], given[3])
    if number == ENTRY:
        return write_entry(fund, given[0], given[1], given[2], given[3], given[4])
    if number == TAKE:
        return take_entry(fund, given[0])
    if number == PAIR:
        return pair_entries(fund, given[0], row)
    if number == UNPAIR:
        return unpair_group(fund, given[0])
    if number == BYREF:
        return pair_by_reference(fund, given[0], given[1])
    if number == RUN:
        return run_plan(fund, given[0], given[1])
    if number == MIRROR:
        return mirror_entry(fund, given[0], given[1])
    if number == TICK:
        return tick_days(fund, given[0])
    return None


def answer_ask(fund, number, given):
    if number == BEST:
        return ask_best(fund, given[0], given[1])
    if number == ENTRYAT:
        return ask_entry(fund, given[0])
    if number == GROUP:
        return ask_group(fund, given[0])
    if number == BREAKS:
        return ask_breaks(fund, given[0], given[1])
    if number == BALANCE:
        return ask_balance(fund, given[0], given[1])
    if number == GAP:
        return ask_gap(fund, given[0], given[1])
    if number == AGED:
        return ask_aged(fund, given[0], given[1], given[2])
    if number == EXPLAIN:
        return ask_explain(fund, given[0], given[1])
    if number == COUNTS:
        return ask_counts(fund)
    return None


def answer(fund, number, given, row):
    numbers = answer_change(fund, number, given, row)
    if numbers is None:
        return answer_ask(fund, number, given)
    return numbers


def answers(calls):
    fund = Fund()
    told = []
    start = 0
    while start < len(calls):
        number = calls[start]
        end = start + 1 + HOW_MANY[number]
        given = calls[start + 1:end]
        row = []
        if number == PAIR:
            row_start = end + 1
            end = row_start + calls[end]
            row = calls[row_start:end]
        numbers = answer(fund, number, given, row)
        told.append(len(numbers))
        told.extend(numbers)
        start = end
    return told
