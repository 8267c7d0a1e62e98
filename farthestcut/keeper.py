"""A keeper: a web and a purse with a best taking, held over changes as long as it stays one."""

from farthestcut.best import best_taking
from farthestcut.changes import changed
from farthestcut.copies import copied_plan, copied_web
from farthestcut.errors import NoDeed
from farthestcut.numbers import is_less
from farthestcut.prices import least_way
from farthestcut.stays import carried_plan, what_holds
from farthestcut.takings import MOST_TAKEN, look_at_many, look_at_purse
from farthestcut.ways import length_of
from farthestcut.webs import LAST

# Where the things of a standing stand in its tuple.
WEB = 0
PURSE = 1
PLAN = 2
MANY = 3


class Keeper:
    def __init__(self, web, purse):
        # One standing for each deed that isn't undone, and one ahead of them all; the last one holds now.
        plan = best_taking(web, purse)
        self.standings = [(copied_web(web), purse, plan, 1)]

    def change(self, change):
        now = self.standings[-1]
        there = changed(now[WEB], change)
        return self.stand_anew(there, now[PURSE], carried_plan(now[WEB], change, now[PLAN]))

    def put_purse(self, purse):
        look_at_purse(purse)
        now = self.standings[-1]
        return self.stand_anew(now[WEB], purse, now[PLAN])

    def stand_anew(self, web, purse, carried):
        look_at_many(web, purse, MOST_TAKEN)
        many = self.standings[-1][MANY]
        if all(what_holds(web, purse, carried)):
            self.standings.append((web, purse, with_least_way(web, carried), many))
            return True
        self.standings.append((web, purse, best_taking(web, purse), many + 1))
        return False

    def undo(self):
        if len(self.standings) == 1:
            raise NoDeed("there is no deed that isn't undone")
        self.standings.pop()

    def web(self):
        return copied_web(self.standings[-1][WEB])

    def purse(self):
        return self.standings[-1][PURSE]

    def plan(self):
        return copied_plan(self.standings[-1][PLAN])

    def told(self):
        return self.standings[-1][MANY]


def with_least_way(web, plan):
    if plan[0] == "cut" or is_least(web, plan[2], plan[3][web[LAST]]):
        return plan
    return (plan[0], plan[1], least_way(web, plan[1])[0], plan[3], plan[4])


def is_least(web, way, claim):
    return way is not None and not is_less(claim, length_of(web, way))
