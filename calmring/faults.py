"""Faults: numbers written into registers, and how a rule mends them."""

from calmring.errors import BadState
from calmring.runs import calm_at, run


def spoil(registers, faults):
    spoiled = list(registers)
    for at, number in faults:
        if at < 0 or at >= len(spoiled):
            raise BadState("a fault is at a machine that is none")
        spoiled[at] = number
    return spoiled


def mend(rule, cells, faults, turns):
    spoiled = spoil(cells, faults)
    rows = run(rule, spoiled, turns)
    behind = calm_at(rule, spoiled, rows)
    wild = rows if behind is None else rows[:behind]
    touched = [at for at in range(rule.size) if any([at in row[0] for row in wild])]
    return (touched, behind)
