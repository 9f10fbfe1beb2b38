"""The base of all rules: every machine's due is its own cell."""

from calmring.errors import BadState, BadTurn, NoMeasure


class Rule:
    def __init__(self, size, span, alone):
        self.size = size
        self.span = span
        self.alone = alone

    def read(self, registers):
        if len(registers) != self.size:
            raise BadState("there are not as many registers as machines")
        return [number % self.span for number in registers]

    def due(self, cells, at):
        return cells[at]

    def movers(self, cells):
        return [at for at in range(self.size) if self.due(cells, at) != cells[at]]

    def calm(self, cells):
        return len(self.movers(cells)) == 0

    def turned(self, cells, named):
        refuse_turn(self, named)
        # The due of a machine that may not is its cell, so every named one can get its due.
        return [self.due(cells, at) if at in named else cells[at] for at in range(self.size)]

    def measure(self, cells):
        raise NoMeasure("this rule has no measure")

    def most(self):
        raise NoMeasure("this rule has no measure")

    # By most(), so that a rule with a measure need not tell soon of its own.
    def soon(self, count):
        return self.most()

    def reach(self, spoiled):
        return list(range(self.size))


def refuse_turn(rule, named):
    if rule.alone and len(named) > 1:
        raise BadTurn("a rule that is alone gets one machine at a turn")
    for at in named:
        if at < 0 or at >= rule.size:
            raise BadTurn("a name is no machine")
    if len(set(named)) != len(named):
        raise BadTurn("a machine is named twice")
