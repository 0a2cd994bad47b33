"""A machine that runs a table on a heap, step by step, and back."""

from shadebarriers.collector import steps_to_end
from shadebarriers.errors import BadHeap, BadTable, NothingToUndo
from shadebarriers.heaps import is_heap
from shadebarriers.marks import is_table
from shadebarriers.properties import has
from shadebarriers.states import is_ended, lost, start
from shadebarriers.steps import after, possible


class Machine:
    """A table on a heap, the steps made so far, and the states that they led to."""

    def __init__(self, table, heap):
        if not is_table(table):
            raise BadTable(table)
        if not is_heap(heap):
            raise BadHeap(heap)
        self._table = table
        self._heap = heap
        self._made = []
        # One more than steps: the start is the first.
        self._states = [start(heap)]

    @property
    def table(self):
        """The table that the machine was made with."""
        return self._table

    @property
    def heap(self):
        """The heap that the machine was made with."""
        return self._heap

    @classmethod
    def replayed(cls, table, run):
        """A machine on the heap of a run of the table that has made the steps of the run."""
        heap, steps = run
        machine = cls(table, heap)
        for step in steps:
            machine.do(step)
        return machine

    def do(self, step):
        """Makes a step; raises the errors of after."""
        behind = after(self._table, self.state(), step)
        self._made.append(step)
        self._states.append(behind)

    def undo(self):
        """Takes back the last step and returns it; raises NothingToUndo."""
        if not self._made:
            raise NothingToUndo()
        self._states.pop()
        return self._made.pop()

    def state(self):
        """The state behind all steps made."""
        return self._states[-1]

    def steps(self):
        """The tuple of all steps made and not taken back."""
        return tuple(self._made)

    def is_ended(self):
        """Whether the state is ended."""
        return is_ended(self._table, self.state())

    def lost(self):
        """The ascending tuple of the objects that are reachable and white."""
        return lost(self.state())

    def possible(self):
        """The tuple of all steps that are possible now."""
        return possible(self._table, self.state())

    def first_break(self, word):
        """The index of the first state since the start that does not have a property, or None; raises BadProperty."""
        for index, state in enumerate(self._states):
            if not has(self._table, state, word):
                return index
        return None

    def collect(self):
        """Makes the collector's steps until the state is ended, and returns their number."""
        steps = steps_to_end(self._table, self.state())
        for step in steps:
            self.do(step)
        return len(steps)

    def twin(self):
        """An independent machine in the same state, with the same steps to take back."""
        other = Machine(self._table, self._heap)
        other._made = list(self._made)
        other._states = list(self._states)
        return other

    def __len__(self):
        return len(self._made)

    def __eq__(self, other):
        if not isinstance(other, Machine):
            return False
        return self._table == other._table and self._heap == other._heap and self._made == other._made
