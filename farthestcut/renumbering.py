"""Ties' numbers put in others' stead, in lists and in cases of ways, by a dict from the old numbers to the new ones."""


def numbers_by(there, numbers):
    return [there[number] for number in numbers]


def cases_by(there, cases):
    inner = [(there[tie], cases_by(there, case)) for tie, case in cases[2]]
    return (cases[0], numbers_by(there, cases[1]), inner)
