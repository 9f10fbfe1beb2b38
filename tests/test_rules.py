import itertools
import unittest

from calmring.errors import BadState, BadTurn, NoMeasure
from calmring.rules import Rule

GREAT = 10 ** 59
NO_MACHINES = [3, 4, 100, GREAT, -1, -2, -3, -4, -GREAT]


class CopyLeftRule(Rule):
    """A rule on the base: each machine ought to hold what the one at its left holds."""

    def due(self, cells, at):
        return cells[at - 1]


class CountedRule(Rule):
    """A rule on the base with a measure of its own, but without a soon of its own."""

    def measure(self, cells):
        return sum(cells)

    def most(self):
        return 42


class RuleValuesTest(unittest.TestCase):
    def test_size_span_alone(self):
        for size, span, alone in itertools.product([1, 2, 7, 300], [1, 2, 5, GREAT], [True, False]):
            rule = Rule(size, span, alone)
            self.assertEqual((rule.size, rule.span), (size, span))
            self.assertIs(rule.alone, alone)


class ReadTest(unittest.TestCase):
    def test_rests(self):
        rule = Rule(6, 5, False)
        self.assertEqual(rule.read([0, 4, 5, 6, 10, 14]), [0, 4, 0, 1, 0, 4])

    def test_below_nought(self):
        rule = Rule(6, 5, False)
        self.assertEqual(rule.read([-1, -4, -5, -6, -10, -11]), [4, 1, 0, 4, 0, 4])

    def test_sixty_figures(self):
        nines = 10 ** 60 - 1
        rule = Rule(4, 7, True)
        self.assertEqual(rule.read([nines, -nines, GREAT, -GREAT]), [0, 0, 5, 2])
        wide = Rule(4, nines, True)
        self.assertEqual(wide.read([nines, -1, GREAT, -GREAT]), [0, nines - 1, GREAT, nines - GREAT])

    def test_span_1(self):
        self.assertEqual(Rule(5, 1, False).read([0, 1, -1, GREAT, -GREAT]), [0, 0, 0, 0, 0])

    def test_size_1_and_many_machines(self):
        self.assertEqual(Rule(1, 3, False).read([-7]), [2])
        self.assertEqual(Rule(300, 3, False).read(list(range(-150, 150))), [0, 1, 2] * 100)

    def test_other_lengths(self):
        for size in (1, 2, 3, 10):
            for alone in (True, False):
                for length in (0, size - 1, size + 1, 2 * size, 300):
                    with self.subTest(size=size, alone=alone, length=length):
                        registers = [0] * length
                        with self.assertRaises(BadState):
                            Rule(size, 4, alone).read(registers)
                        self.assertEqual(registers, [0] * length)

    def test_a_new_list_and_the_registers_stay(self):
        rule = Rule(3, 5, False)
        for registers in ([7, -1, 5], [0, 4, 2]):
            kept = list(registers)
            cells = rule.read(registers)
            told = list(cells)
            self.assertIsNot(cells, registers)
            cells.clear()
            self.assertEqual(registers, kept)
            self.assertEqual(rule.read(registers), told)

    def test_told_cells_stay_when_the_registers_change(self):
        registers = [1, 2, 3]
        cells = Rule(3, 5, False).read(registers)
        registers[0] = 4
        registers.append(0)
        self.assertEqual(cells, [1, 2, 3])


class BaseDueTest(unittest.TestCase):
    def test_due_is_the_own_cell_and_all_is_calm(self):
        for size, span, alone in itertools.product([1, 2, 3], [1, 2, 3], [True, False]):
            rule = Rule(size, span, alone)
            for state in itertools.product(range(span), repeat=size):
                cells = list(state)
                self.assertEqual([rule.due(cells, at) for at in range(size)], cells)
                self.assertEqual(rule.movers(cells), [])
                self.assertIs(rule.calm(cells), True)
                self.assertEqual(cells, list(state))

    def test_no_turn_changes_anything(self):
        rule = Rule(3, 4, False)
        cells = [3, 0, 2]
        for count in range(4):
            for named in itertools.permutations(range(3), count):
                behind = rule.turned(cells, list(named))
                self.assertEqual(behind, [3, 0, 2])
                self.assertIsNot(behind, cells)
        alone = Rule(3, 4, True)
        for named in ([], [0], [1], [2]):
            behind = alone.turned(cells, named)
            self.assertEqual(behind, [3, 0, 2])
            self.assertIsNot(behind, cells)


class RuleOnTheBaseTest(unittest.TestCase):
    def test_movers_are_those_whose_due_is_not_their_cell(self):
        for alone in (True, False):
            rule = CopyLeftRule(4, 3, alone)
            for state in itertools.product(range(3), repeat=4):
                cells = list(state)
                movers = [at for at in range(4) if state[at - 1] != state[at]]
                self.assertEqual(rule.movers(cells), movers)
                self.assertIs(rule.calm(cells), movers == [])
                self.assertEqual(cells, list(state))

    def test_movers_are_a_new_list(self):
        rule = CopyLeftRule(3, 3, False)
        first = rule.movers([0, 1, 1])
        self.assertEqual(first, [0, 1])
        first.clear()
        self.assertEqual(rule.movers([0, 1, 1]), [0, 1])

    def test_each_named_one_gets_its_due_by_the_cells_ahead(self):
        rule = CopyLeftRule(4, 3, False)
        for state in itertools.product(range(3), repeat=4):
            for count in range(5):
                for named in itertools.permutations(range(4), count):
                    cells, names = list(state), list(named)
                    behind = rule.turned(cells, names)
                    self.assertEqual(behind, [state[at - 1] if at in named else state[at] for at in range(4)])
                    self.assertEqual((cells, names), (list(state), list(named)))

    def test_one_at_a_time_for_a_rule_that_is_alone(self):
        rule = CopyLeftRule(3, 9, True)
        self.assertEqual(rule.turned([5, 6, 7], []), [5, 6, 7])
        self.assertEqual(rule.turned([5, 6, 7], [0]), [7, 6, 7])
        self.assertEqual(rule.turned([5, 6, 7], [1]), [5, 5, 7])
        self.assertEqual(rule.turned([5, 6, 7], [2]), [5, 6, 6])
        self.assertEqual(rule.turned([5, 5, 7], [1]), [5, 5, 7])

    def test_behind_a_turn_the_lists_are_not_bound_together(self):
        rule = CopyLeftRule(3, 9, False)
        cells, named = [5, 6, 7], [0]
        behind = rule.turned(cells, named)
        cells[1] = 0
        named.append(2)
        self.assertEqual(behind, [7, 6, 7])
        behind.clear()
        self.assertEqual(cells, [5, 0, 7])
        self.assertEqual(named, [0, 2])

    def test_soon_is_most_where_nothing_else_is_told(self):
        rule = CountedRule(3, 5, False)
        for count in (0, 1, 2, 300, GREAT):
            self.assertEqual(rule.soon(count), 42)
        self.assertEqual(rule.measure([1, 2, 3]), 6)


class BadTurnTest(unittest.TestCase):
    def refused(self, rule, named):
        cells, kept = [0, 1, 2], list(named)
        with self.assertRaises(BadTurn):
            rule.turned(cells, named)
        self.assertEqual((cells, named), ([0, 1, 2], kept))

    def test_a_name_that_is_no_machine(self):
        for wrong in NO_MACHINES:
            with self.subTest(wrong=wrong):
                for alone in (True, False):
                    self.refused(Rule(3, 5, alone), [wrong])
                    self.refused(CopyLeftRule(3, 5, alone), [wrong])
                for named in ([wrong, 0], [0, wrong], [0, 1, 2, wrong], [wrong, 2, 1, 0]):
                    self.refused(Rule(3, 5, False), named)

    def test_a_machine_named_twice(self):
        for named in ([0, 0], [2, 2], [0, 1, 0], [0, 1, 2, 2], [1, 0, 2, 1], [1, 1, 1]):
            with self.subTest(named=named):
                self.refused(Rule(3, 5, False), named)
                self.refused(CopyLeftRule(3, 5, False), named)
                self.refused(Rule(3, 5, True), named)

    def test_more_than_one_for_a_rule_that_is_alone(self):
        for named in ([0, 1], [2, 0], [0, 1, 2], [2, 1, 0], [1, 1]):
            with self.subTest(named=named):
                self.refused(Rule(3, 5, True), named)
                self.refused(CopyLeftRule(3, 5, True), named)


class NoMeasureTest(unittest.TestCase):
    def test_all_three_are_refused(self):
        for alone in (True, False):
            rule = Rule(3, 5, alone)
            for cells in ([0, 0, 0], [4, 1, 3]):
                kept = list(cells)
                with self.assertRaises(NoMeasure):
                    rule.measure(cells)
                self.assertEqual(cells, kept)
            with self.assertRaises(NoMeasure):
                rule.most()
            for count in (0, 1, 2, 300, GREAT):
                with self.assertRaises(NoMeasure):
                    rule.soon(count)


class ReachTest(unittest.TestCase):
    def test_all_machines(self):
        for size in (1, 2, 5, 10):
            for alone in (True, False):
                rule = Rule(size, 5, alone)
                for spoiled in ([], [0], [size - 1], [0, 0, 0], list(reversed(range(size)))):
                    kept = list(spoiled)
                    self.assertEqual(rule.reach(spoiled), list(range(size)))
                    self.assertEqual(spoiled, kept)

    def test_a_new_list(self):
        rule = Rule(3, 5, False)
        spoiled = [0, 1, 2]
        first = rule.reach(spoiled)
        self.assertIsNot(first, spoiled)
        first.clear()
        spoiled.clear()
        self.assertEqual(rule.reach([0, 1, 2]), [0, 1, 2])
        self.assertEqual(spoiled, [])


class NothingChangesBehindTheMakingTest(unittest.TestCase):
    def test_a_rule_stays_as_it_was_made(self):
        rule = CopyLeftRule(3, 5, False)
        rule.read([7, 8, 9])
        rule.movers([1, 2, 3])
        rule.turned([1, 2, 3], [0, 2])
        rule.reach([1])
        for refused, wrong in ((rule.read, ([],)), (rule.turned, ([1, 2, 3], [3]))):
            with self.assertRaises(ValueError):
                refused(*wrong)
        self.assertEqual((rule.size, rule.span, rule.alone), (3, 5, False))


if __name__ == "__main__":
    unittest.main()
