"""The refusals that several calls share: each check gives back the refusal that is due, or 0."""

from threebooks.refusals import NO_ACCOUNT, OUT_OF_RANGE, TOO_MANY_OPEN

MOST_OPEN = 5


def within(number, least, most):
    return least <= number <= most


# Books and pairs of books have the same range.
def range_refusal(fund, book_or_pair, account):
    if account not in fund.accounts:
        return NO_ACCOUNT
    if not within(book_or_pair, 0, 2):
        return OUT_OF_RANGE
    return 0


def plan_refusal(fund, pair, account):
    refusal = range_refusal(fund, pair, account)
    if refusal != 0:
        return refusal
    if len(fund.open_left(pair, account)) > MOST_OPEN or len(fund.open_right(pair, account)) > MOST_OPEN:
        return TOO_MANY_OPEN
    return 0
