"""The calls that only ask: each gives back the list of its answer's numbers."""

from threebooks.checks import plan_refusal
from threebooks.plans import plan_for


def ask_best(fund, p, a):
    refusal = plan_refusal(fund, p, a)
    if refusal != 0:
        return [refusal]
    plan = plan_for(fund, p, a)
    return [fund.how_many_open(p, a) - plan.grouped(), len(plan.fits), plan.gaps()]
