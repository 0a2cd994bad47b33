"""A desk that understands lines: what they say it does, and it answers with a line."""

from shadebarriers.errors import BadLine, NoMachine
from shadebarriers.judging import breaking_run, fewest_steps, holds
from shadebarriers.machine import Machine
from shadebarriers.marks import joined
from shadebarriers.needless import needless
from shadebarriers.properties import PROPERTIES
from shadebarriers.texts import format_heap, format_step, format_steps, format_table, parse_heap, read_mark, read_step

SINGLE_WORDS = ("table", "undo", "collect", "lost", "ended")
MARK_WORDS = ("mark", "unmark")
PROPERTY_WORDS = ("holds", "fewest", "run", "needless")


class Desk:
    """A table, and perhaps a machine."""

    def __init__(self):
        self._chosen = ((), False)
        self._machine = None

    def say(self, line):
        """Does what a line says and returns the answer; raises BadLine for any value that is no such line."""
        if not _is_line(line):
            raise BadLine(line)
        word, _, rest = line.partition(" ")
        if word in MARK_WORDS:
            return self._change_mark(word, read_mark(rest))
        if word == "rescan":
            return self._choose((self._chosen[0], rest == "yes"))
        if word == "table":
            return _in_one_line(format_table(self._chosen))
        if word in PROPERTY_WORDS:
            return _judgement(self._chosen, word, rest)
        if word == "heap":
            self._machine = Machine(self._chosen, parse_heap(rest.replace(" / ", "\n")))
            return "done"
        if self._machine is None:
            raise NoMachine()
        return _moved(self._machine, word, rest)

    def _change_mark(self, word, mark):
        marks, rescans = self._chosen
        if word == "mark":
            return self._choose(joined(self._chosen, ((mark,), False)))
        return self._choose((tuple([other for other in marks if other != mark]), rescans))

    def _choose(self, table):
        self._chosen = table
        return "done"


def _is_line(value):
    if not isinstance(value, str):
        return False
    word, space, rest = value.partition(" ")
    if not space:
        return word in SINGLE_WORDS
    if word in MARK_WORDS:
        return read_mark(rest) is not None
    if word in PROPERTY_WORDS:
        return rest in PROPERTIES
    if word == "do":
        return read_step(rest) is not None
    return (word == "rescan" and rest in ("yes", "no")) or (word == "heap" and "\n" not in rest)


def _judgement(table, word, name):
    """The answer to a line about a property of a table."""
    if word == "holds":
        return _yes_or_no(holds(table, name))
    if word == "fewest":
        return _text_or_none(fewest_steps(table, name))
    if word == "needless":
        return str(len(needless(table, name)))
    run = breaking_run(table, name)
    if run is None:
        return "none"
    heap, steps = run
    return _in_one_line(format_heap(heap)) + " | " + _in_one_line(format_steps(steps))


def _moved(machine, word, row):
    """The answer to a line for the machine."""
    if word == "do":
        machine.do(read_step(row))
        return "done"
    if word == "undo":
        return format_step(machine.undo())
    if word == "collect":
        return str(machine.collect())
    if word == "lost":
        return " ".join([str(number) for number in machine.lost()]) or "none"
    return _yes_or_no(machine.is_ended())


def _in_one_line(text):
    return text.replace("\n", " / ")


def _yes_or_no(answer):
    return "yes" if answer else "no"


def _text_or_none(number):
    return "none" if number is None else str(number)
