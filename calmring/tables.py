"""Table: a ring whose dues somebody tells by two tables."""

from calmring.errors import BadRule
from calmring.rules import Rule

LEAST_RING = 2
GREATEST_RING = 8
LEAST_SPAN = 2
GREATEST_SPAN = 4
# By the word: how many machines may in a calm state.
CALM_MOVERS = {"none": 0, "one": 1}


class TableRule(Rule):
    def __init__(self, size, span, word, firsts, others):
        if size < LEAST_RING or size > GREATEST_RING:
            raise BadRule("the number of machines is out of bounds")
        if span < LEAST_SPAN or span > GREATEST_SPAN:
            raise BadRule("the span is out of bounds")
        if word not in CALM_MOVERS:
            raise BadRule("the word is another one than none and one")
        refuse_table(firsts, span)
        refuse_table(others, span)
        self.calm_movers = CALM_MOVERS[word]
        # Tuples, so that the lists handed in can't reach into the rule.
        self.firsts = tuple(firsts)
        self.others = tuple(others)
        Rule.__init__(self, size, span, False)

    def due(self, cells, at):
        left = cells[(at - 1) % self.size]
        right = cells[(at + 1) % self.size]
        entry = cells[at] * self.span * self.span + left * self.span + right
        return self.firsts[entry] if at == 0 else self.others[entry]

    def calm(self, cells):
        return len(self.movers(cells)) == self.calm_movers


def refuse_table(table, span):
    if len(table) != span * span * span:
        raise BadRule("a table has not an entry for each own, left and right cell")
    for number in table:
        if number < 0 or number >= span:
            raise BadRule("an entry of a table is out of bounds")
