"""Live lots: led deed by deed, and asked which goals can still come about."""

from losinglanes.closing import closed_list
from losinglanes.deeds import after_deed, are_deeds
from losinglanes.errors import (
    CannotDo, CannotLose, CannotWear, InvalidGoals, NothingDone, OutOfReach, Refused, UnknownGoal)
from losinglanes.forms import is_index, is_integer_in, is_tuple_of
from losinglanes.programs import first_lot, is_situation, require_program, require_situation
from losinglanes.reaching import shortest_run
from losinglanes.steps import is_above_one, steps_of

MOST_GOALS = 3


def require_goals(program, value):
    """Return value if it is a tuple of goals, else raise InvalidGoals with the first wrong one."""
    if not is_tuple_of(value, 0, MOST_GOALS):
        raise InvalidGoals(None)
    for index, goal in enumerate(value):
        if not is_situation(program, goal):
            raise InvalidGoals(index)
    return value


class Live:
    """A lot that is led by deeds from the first one, and goals some of which may be kept."""

    def __init__(self, program, goals=(), *, tries=400):
        """Begin with the first lot; raise InvalidProgram, InvalidGoals or LimitExceeded."""
        self._program = require_program(program)
        self._goals = require_goals(program, goals)
        self._tries = tries
        # A goal is open in the lots that are above one of its closed list, so they are made once.
        self._closed = [closed_list(program, goal, tries=tries) for goal in goals]
        self._deeds = []
        # The lot ahead of each deed, and behind them that of now.
        self._lots = [first_lot(program)]
        self._kept = []

    def __len__(self):
        """Return the number of deeds."""
        return len(self._deeds)

    def __eq__(self, other):
        """Return whether other is a live lot with an equal program, equal goals and equal deeds."""
        return (isinstance(other, Live) and self._program == other._program
                and self._goals == other._goals and self._deeds == other._deeds)

    def __iadd__(self, other):
        """Do a tuple of deeds, all of them or none; raise Refused."""
        if not are_deeds(other):
            raise Refused(-1, None)
        count = len(self._deeds)
        for index, deed in enumerate(other):
            reason = self._refusal(deed)
            if reason is not None:
                self.back_to(count)
                raise Refused(index, reason)
        return self

    def do(self, machine, index):
        """Do a step; raise CannotDo or OutOfReach."""
        self._take_on(("do", machine, index))

    def lose(self, lane, position):
        """Lose a letter; raise CannotLose or OutOfReach."""
        self._take_on(("lose", lane, position))

    def wear(self, lane, position):
        """Make a letter less by one; raise CannotWear or OutOfReach."""
        self._take_on(("wear", lane, position))

    def program(self):
        """Return the program."""
        return self._program

    def goals(self):
        """Return the goals."""
        return self._goals

    def lot(self):
        """Return the lot of now."""
        return self._lots[-1]

    def deeds(self):
        """Return the tuple of all deeds."""
        return tuple(self._deeds)

    def steps(self):
        """Return the set of the pairs (machine, index) that can be done, kept goals aside."""
        return steps_of(self._program, self.lot())

    def is_in(self, situation):
        """Return whether the lot is in the situation; raise InvalidSituation."""
        return is_above_one(self.lot(), require_situation(self._program, situation))

    def entries(self):
        """Return the entries of the steps done: a run to a lot that is above that of now."""
        rows = [(lot[1], deed) for lot, deed in zip(self._lots, self._deeds)]
        return tuple([(words, deed[1], deed[2]) for words, deed in rows if deed[0] == "do"])

    def open_goals(self):
        """Return the set of the indices of the goals that can still come about."""
        return tuple([goal for goal in range(len(self._goals)) if self._is_open(goal, self.lot())])

    def way_to(self, goal):
        """Return a shortest run from the lot into the goal, or None; raise UnknownGoal."""
        self._require_goal(goal)
        return shortest_run(self._program, self.lot(), self._goals[goal], tries=self._tries)

    def keep(self, goal):
        """Refuse from now on what would close the goal; raise UnknownGoal or OutOfReach."""
        self._require_goal(goal)
        if not self._is_open(goal, self.lot()):
            raise OutOfReach(goal)
        if goal not in self._kept:
            self._kept = sorted([*self._kept, goal])

    def let_go(self, goal):
        """Keep the goal no longer; raise UnknownGoal."""
        self._require_goal(goal)
        self._kept = [kept for kept in self._kept if kept != goal]

    def kept(self):
        """Return the set of the indices of the kept goals."""
        return tuple(self._kept)

    def undo(self):
        """Take the last deed back; raise NothingDone."""
        self.back_to(len(self._deeds) - 1)

    def back_to(self, count):
        """Take deeds back, the last one first, until so many are left; raise NothingDone."""
        if not is_integer_in(count, 0, len(self._deeds)):
            raise NothingDone()
        # A goal that is open in a lot was open in each one before it, so the kept goals stay open.
        self._deeds = self._deeds[:count]
        self._lots = self._lots[:count + 1]

    def twin(self):
        """Return another live lot with the same program, goals, deeds and kept goals."""
        other = Live(self._program, tries=self._tries)
        other._goals = self._goals
        other._closed = list(self._closed)
        other._deeds = list(self._deeds)
        other._lots = list(self._lots)
        other._kept = list(self._kept)
        return other

    def _is_open(self, goal, lot):
        """Return whether the goal can come about from the lot."""
        return is_above_one(lot, self._closed[goal])

    def _require_goal(self, goal):
        """Raise UnknownGoal if goal, any value, is not the index of a goal."""
        if not is_index(goal, len(self._goals)):
            raise UnknownGoal(goal)

    def _take_on(self, deed):
        """Do the deed, or raise the error that tells why not."""
        lot = after_deed(self._program, self.lot(), deed)
        for goal in self._kept:
            if not self._is_open(goal, lot):
                raise OutOfReach(goal)
        self._deeds.append(deed)
        self._lots.append(lot)

    def _refusal(self, deed):
        """Do the deed and return None, or return the name of the error that tells why not."""
        try:
            self._take_on(deed)
        except CannotDo:
            return "CannotDo"
        except CannotLose:
            return "CannotLose"
        except CannotWear:
            return "CannotWear"
        except OutOfReach:
            return "OutOfReach"
        return None
