"""Copies of webs and plans, so that what is kept and what is told share no list and no dict."""

from farthestcut.webs import FIRST, LAST, PLACES, TIES


def copied_web(web):
    return (list(web[PLACES]), list(web[TIES]), web[FIRST], web[LAST])


def copied_plan(plan):
    if plan[0] == "cut":
        return (plan[0], list(plan[1]), list(plan[2]))
    return (plan[0], list(plan[1]), list(plan[2]), dict(plan[3]), copied_cases(plan[4]))


def copied_cases(cases):
    return (cases[0], list(cases[1]), [(tie, copied_cases(case)) for tie, case in cases[2]])
