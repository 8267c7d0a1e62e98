"""What stays of a best taking when its web changes, or its purse."""

from farthestcut.cases import claim_of_cases
from farthestcut.changes import carried_cases, carried_taking, carried_way, changed
from farthestcut.errors import NoCases, NoTaking
from farthestcut.numbers import is_less
from farthestcut.prices import lets_prices
from farthestcut.steps import numbers_out
from farthestcut.takings import is_within, look_at_purse
from farthestcut.webs import LAST, look_at_web


def what_stays(web, purse, plan, change):
    look_at_web(web)
    look_at_purse(purse)
    there = changed(web, change)
    return what_holds(there, purse, carried_plan(web, change, plan))


def carried_plan(web, change, plan):
    # A part of it is None where a tie in it is gone.
    taking = carried_taking(web, change, plan[1])
    if plan[0] == "cut":
        return ("cut", taking, plan[2])
    return ("left", taking, carried_way(web, change, plan[2]), plan[3], carried_cases(web, change, plan[4]))


def what_holds(web, purse, plan):
    is_taken = is_taking_within(web, purse, plan[1])
    if plan[0] == "cut":
        return (is_taken and numbers_out(web, plan[1], plan[2]) == [], True)
    prices = plan[3]
    return (is_taken and lets_prices(web, plan[1], prices), is_ready(web, purse, plan[4], prices[web[LAST]]))


def is_taking_within(web, purse, taking):
    try:
        return taking is not None and is_within(web, taking, purse)
    except NoTaking:
        return False


def is_ready(web, purse, cases, claim):
    try:
        return cases is not None and not is_less(claim, claim_of_cases(web, purse, cases))
    except NoCases:
        return False
