import random
import unittest

from calmring.errors import BadRule
from calmring.leasts import FarRule, LeadRule, LeastRule
from calmring.nets import Net, far_from, line, ring
from calmring.rules import Rule
from promises import (
    GREAT, NINES, check_bad_turns, check_dues, check_every_state, check_falling, check_lists, check_own,
    check_reach_all, check_reading, drawn_states, kite, mixed, small_nets, star, states, whole)

NETS = small_nets(4) + [line(10), ring(10), star(10), whole(10), mixed()]


def dues_by_hand(net, starts, stretch, blocks, cells):
    """Point 17, word by word."""
    top = stretch * blocks
    dues = []
    for at in range(net.size):
        due = top
        if starts[at] is not None and starts[at] < due:
            due = starts[at]
        for other in net.beside(at):
            offer = cells[other] + 1
            if cells[other] < top and offer % stretch and offer < due:
                due = offer
        dues.append(due)
    return dues


def measure_by_hand(rule, cells, dues):
    """The figures first, then the number that they write."""
    figures = []
    for k in range(rule.top):
        figures.append(sum(cells[at] == k and dues[at] > k for at in range(rule.size)))
        figures.append(sum(cells[at] > k and dues[at] == k for at in range(rule.size)))
    return sum(figure * (rule.size + 1) ** place for place, figure in enumerate(reversed(figures)))


def small_leasts():
    """(net, starts, stretch, blocks) with few states."""
    found = []
    for net in small_nets(3):
        for stretch, blocks in ((1, 1), (1, 3), (2, 1), (2, 2), (3, 1), (3, 2), (4, 1)):
            top = stretch * blocks
            for starts in ([None] * net.size, [0] + [None] * (net.size - 1), [0] * net.size,
                           [top - 1] * net.size, [None] * (net.size - 1) + [top // 2]):
                found.append((net, starts, stretch, blocks))
    return found


def check_rest(test, rule, right):
    """One machine at a time, drawn, from any registers: the measure falls till the calm state that is right."""
    draw = random.Random(17)
    for turn in range(8):
        cells = rule.read([draw.randrange(-NINES, NINES) for at in range(rule.size)])
        measure = rule.measure(cells)
        while not rule.calm(cells):
            cells = rule.turned(cells, [draw.choice(rule.movers(cells))])
            behind = rule.measure(cells)
            test.assertLess(behind, measure)
            measure = behind
        test.assertEqual(cells, right)


class LeastTest(unittest.TestCase):
    def refused(self, net, starts, stretch, blocks):
        kept = list(starts)
        with self.assertRaises(BadRule, msg=(starts, stretch, blocks)):
            LeastRule(net, starts, stretch, blocks)
        self.assertEqual(starts, kept)

    def test_making(self):
        for net in NETS:
            for stretch, blocks in ((1, 1), (1, 10), (10, 1), (10, 10), (3, 4)):
                rule = LeastRule(net, [0] + [None] * (net.size - 1), stretch, blocks)
                self.assertIsInstance(rule, Rule)
                self.assertEqual((rule.size, rule.top, rule.span), (net.size, stretch * blocks, stretch * blocks + 1))
                self.assertIs(rule.alone, True)
                check_reading(self, rule)

    def test_stretch_and_blocks_1_to_10(self):
        for part in range(1, 11):
            self.assertEqual(LeastRule(line(2), [None, None], part, 3).top, 3 * part)
            self.assertEqual(LeastRule(line(2), [None, None], 3, part).top, 3 * part)
        for part in (0, 11, 12, 300, GREAT, NINES, -1, -2, -10, -GREAT):
            for other in (1, 3, 10):
                for starts in ([None, None], [0, None]):
                    self.refused(line(2), starts, part, other)
                    self.refused(line(2), starts, other, part)
            self.refused(line(2), [None, None], part, part)
        self.refused(line(2), [None, None], -2, -3)

    def test_too_few_and_too_many_starts(self):
        for net in NETS:
            for count in (net.size - 1, net.size + 1, net.size + 2, 0, 300):
                for start in (None, 0, 1):
                    self.refused(net, [start] * count, 2, 2)

    def test_starts_out_of_their_bounds(self):
        for stretch, blocks in ((1, 1), (2, 3), (10, 10)):
            top = stretch * blocks
            for place in range(3):
                for wrong in (top, top + 1, 300, GREAT, -1, -2, -top, -GREAT):
                    for other in (None, 0):
                        starts = [other] * 3
                        starts[place] = wrong
                        self.refused(ring(3), starts, stretch, blocks)
                for right in (0, top - 1, None):
                    starts = [None] * 3
                    starts[place] = right
                    rule = LeastRule(ring(3), starts, stretch, blocks)
                    self.assertEqual(rule.due([top] * 3, place), top if right is None else right)

    def test_dues_with_stretch_1(self):
        check_dues(self, LeastRule(line(3), [None, None, None], 1, 4), [0, 2, 4], [4, 4, 4])
        check_dues(self, LeastRule(line(3), [2, None, 0], 1, 4), [0, 0, 0], [2, 4, 0])
        check_dues(self, LeastRule(line(1), [None], 1, 1), [0], [1])
        check_dues(self, LeastRule(line(1), [0], 1, 1), [1], [0])

    def test_dues_with_greater_stretch(self):
        rule = LeastRule(line(4), [None, None, None, None], 3, 2)
        check_dues(self, rule, [0, 0, 0, 0], [1, 1, 1, 1])
        check_dues(self, rule, [1, 6, 6, 6], [6, 2, 6, 6])
        check_dues(self, rule, [4, 3, 1, 6], [4, 2, 4, 2])

    def test_nothing_is_offered_at_a_multiple_of_the_stretch(self):
        rule = LeastRule(line(2), [None, None], 3, 2)
        for cell, offer in enumerate([1, 2, 6, 4, 5, 6, 6]):
            check_dues(self, rule, [cell, 6], [6, offer])
            check_dues(self, rule, [6, cell], [offer, 6])

    def test_nothing_is_offered_at_the_top(self):
        for stretch, blocks in ((1, 1), (1, 5), (4, 1), (3, 3)):
            top = stretch * blocks
            check_dues(self, LeastRule(ring(3), [None] * 3, stretch, blocks), [top] * 3, [top] * 3)

    def test_dues_with_starts(self):
        rule = LeastRule(line(3), [0, None, 4], 5, 1)
        check_dues(self, rule, [5, 5, 5], [0, 5, 4])
        check_dues(self, rule, [0, 1, 2], [0, 1, 2])
        check_dues(self, rule, [3, 0, 3], [0, 4, 1])
        check_dues(self, rule, [2, 3, 0], [0, 1, 4])
        check_dues(self, LeastRule(line(2), [0, 0], 5, 1), [3, 3], [0, 0])

    def test_dues_of_many(self):
        for net, starts, stretch, blocks in small_leasts():
            rule = LeastRule(net, starts, stretch, blocks)
            for cells in states(rule):
                dues = dues_by_hand(net, starts, stretch, blocks, cells)
                check_dues(self, rule, cells, dues)
                self.assertIs(rule.calm(cells), dues == cells)
                self.assertEqual(rule.measure(cells), measure_by_hand(rule, cells, dues))

    def test_dues_of_great_ones(self):
        for net in NETS:
            starts = [(7 * at) % 20 if at % 3 else None for at in range(net.size)]
            rule = LeastRule(net, starts, 4, 5)
            for cells in drawn_states(rule, 20):
                dues = dues_by_hand(net, starts, 4, 5, cells)
                check_dues(self, rule, cells, dues)
                self.assertEqual(rule.measure(cells), measure_by_hand(rule, cells, dues))

    def test_measure_by_hand(self):
        rule = LeastRule(line(2), [0, None], 3, 1)
        self.assertEqual(rule.measure([0, 1]), 0)
        # Machine 1 has the cell 0 and the due 1: the first of the six figures is 1.
        self.assertEqual(rule.measure([0, 0]), 3 ** 5)
        # Machine 0 has a cell above 0 and the due 0: the second figure.
        self.assertEqual(rule.measure([3, 3]), 3 ** 4)
        self.assertEqual(rule.measure([0, 3]), 3 ** 2)
        self.assertEqual(rule.measure([1, 0]), 3 ** 5 + 3 ** 4)
        self.assertEqual(rule.measure([0, 2]), 3 ** 2)
        self.assertEqual(rule.measure([2, 1]), 3 ** 4 + 3 ** 3)
        free = LeastRule(line(2), [None, None], 2, 2)
        self.assertEqual(free.measure([0, 0]), 2 * 3 ** 7)
        self.assertEqual(free.measure([2, 2]), 2 * 3 ** 3)
        self.assertEqual(free.measure([0, 3]), 3 ** 7 + 3 ** 4)

    def test_most_and_soon(self):
        for net in NETS:
            for stretch, blocks in ((1, 1), (2, 3), (10, 10)):
                rule = LeastRule(net, [None] * net.size, stretch, blocks)
                most = (net.size + 1) ** (2 * stretch * blocks) - 1
                self.assertEqual(rule.most(), most)
                for count in (0, 1, 300, GREAT):
                    self.assertEqual(rule.soon(count), most)

    def test_every_state_falls(self):
        for net, starts, stretch, blocks in small_leasts():
            check_every_state(self, LeastRule(net, starts, stretch, blocks))

    def test_drawn_states_of_great_ones_fall(self):
        for net in NETS:
            rule = LeastRule(net, [17] + [None] * (net.size - 1), 10, 10)
            for cells in drawn_states(rule, 5):
                check_falling(self, rule, cells)

    def test_it_is_alone(self):
        for net in NETS:
            check_bad_turns(self, LeastRule(net, [None] * net.size, 2, 2))

    def test_reach(self):
        for net in NETS:
            check_reach_all(self, LeastRule(net, [None] * net.size, 2, 2))

    def test_starts_stay_and_may_change_behind_the_making(self):
        starts = [0, None, 3]
        rule = LeastRule(line(3), starts, 2, 2)
        self.assertEqual(starts, [0, None, 3])
        starts[0] = 1
        starts[1] = 0
        starts.pop()
        check_dues(self, rule, [4, 4, 4], [0, 4, 3])
        starts.clear()
        check_dues(self, rule, [4, 4, 4], [0, 4, 3])

    def test_lists_stay_and_are_the_askers_own(self):
        rule = LeastRule(kite(), [0, None, 3, None], 2, 2)
        for cells in ([0, 1, 3, 1], [4, 4, 4, 4], [0, 0, 0, 0], [1, 3, 2, 0]):
            check_lists(self, rule, cells)


class FarTest(unittest.TestCase):
    def test_making(self):
        for net in NETS:
            for root in range(net.size):
                rule = FarRule(net, root)
                self.assertIsInstance(rule, LeastRule)
                self.assertEqual((rule.size, rule.top, rule.span), (net.size, net.size, net.size + 1))
                self.assertIs(rule.alone, True)
            check_reading(self, FarRule(net, 0))
            check_bad_turns(self, FarRule(net, 0))
            check_reach_all(self, FarRule(net, 0))

    def test_a_root_that_is_no_machine(self):
        for net in NETS:
            for root in (net.size, net.size + 1, 10, 300, GREAT, NINES, -1, -2, -net.size, -GREAT):
                with self.subTest(size=net.size, root=root):
                    with self.assertRaises(BadRule):
                        FarRule(net, root)

    def test_dues(self):
        rule = FarRule(line(4), 1)
        check_dues(self, rule, [4, 4, 4, 4], [4, 0, 4, 4])
        check_dues(self, rule, [0, 0, 0, 0], [1, 0, 1, 1])
        check_dues(self, rule, [1, 0, 1, 2], [1, 0, 1, 2])
        check_dues(self, rule, [3, 3, 2, 3], [4, 0, 4, 3])
        check_dues(self, FarRule(line(1), 0), [1], [0])
        check_dues(self, FarRule(line(1), 0), [0], [0])

    def test_dues_of_many(self):
        for net in NETS:
            for root in range(net.size):
                rule = FarRule(net, root)
                starts = [0 if at == root else None for at in range(net.size)]
                for cells in drawn_states(rule, 20):
                    check_dues(self, rule, cells, dues_by_hand(net, starts, net.size, 1, cells))

    def test_calm_states_tell_how_far(self):
        for net in small_nets(4):
            for root in range(net.size):
                rule = FarRule(net, root)
                calms = [cells for cells in states(rule) if rule.calm(cells)]
                self.assertEqual(calms, [far_from(net, root)])

    def test_every_state_falls(self):
        for net in small_nets(4):
            for root in range(net.size):
                check_every_state(self, FarRule(net, root))

    def test_great_nets_come_to_rest(self):
        for net in NETS:
            for root in (0, net.size - 1):
                check_rest(self, FarRule(net, root), far_from(net, root))

    def test_measure_and_most(self):
        rule = FarRule(line(2), 0)
        self.assertEqual(rule.measure([0, 1]), 0)
        self.assertEqual(rule.measure([1, 0]), 3 ** 3 + 3 ** 2)
        self.assertEqual(rule.measure([2, 2]), 3 ** 2)
        self.assertEqual(rule.measure([0, 2]), 1)
        self.assertEqual((rule.most(), rule.soon(0), rule.soon(5)), (80, 80, 80))
        self.assertEqual(FarRule(mixed(), 3).most(), 11 ** 20 - 1)

    def test_lists_stay_and_are_the_askers_own(self):
        for cells in ([0, 1, 2, 1], [4, 4, 4, 4], [3, 0, 0, 2]):
            check_lists(self, FarRule(kite(), 0), cells)


class LeadTest(unittest.TestCase):
    def test_making(self):
        for net in NETS:
            rule = LeadRule(net, list(range(net.size)))
            self.assertIsInstance(rule, LeastRule)
            self.assertEqual((rule.size, rule.top, rule.span), (net.size, 10 * net.size, 10 * net.size + 1))
            self.assertIs(rule.alone, True)
            check_reading(self, rule)
            check_bad_turns(self, rule)
            check_reach_all(self, rule)

    def refused(self, net, names):
        kept = list(names)
        with self.assertRaises(BadRule, msg=names):
            LeadRule(net, names)
        self.assertEqual(names, kept)

    def test_too_few_and_too_many_names(self):
        for net in NETS:
            for count in (0, net.size - 1, net.size + 1, net.size + 2):
                self.refused(net, list(range(count)))
        self.refused(line(2), list(range(300)))

    def test_names_twice_the_same(self):
        for names in ([3, 3, 1, 2], [3, 1, 3, 2], [0, 1, 2, 0], [9, 5, 9, 9], [4, 7, 8, 8]):
            self.refused(kite(), names)

    def test_names_out_of_their_bounds(self):
        for place in range(3):
            for wrong in (-1, -2, -9, 10, 11, 300, GREAT, -GREAT, NINES):
                names = [4, 5, 6]
                names[place] = wrong
                self.refused(ring(3), names)
            for right in (0, 9):
                names = [4, 5, 6]
                names[place] = right
                self.assertEqual(LeadRule(ring(3), names).due([30] * 3, place), (9 - right) * 3)

    def test_starts(self):
        for net in NETS:
            names = [(3 * at + 7) % 10 for at in range(net.size)]
            rule = LeadRule(net, names)
            check_dues(self, rule, [rule.top] * net.size, [(9 - name) * net.size for name in names])

    def test_dues(self):
        rule = LeadRule(line(3), [2, 9, 0])
        check_dues(self, rule, [30, 30, 30], [21, 0, 27])
        check_dues(self, rule, [1, 0, 1], [1, 0, 1])
        check_dues(self, rule, [2, 5, 26], [21, 0, 27])
        check_dues(self, rule, [7, 22, 28], [21, 0, 23])
        check_dues(self, rule, [3, 1, 28], [2, 0, 2])
        check_dues(self, LeadRule(line(1), [0]), [10], [9])
        check_dues(self, LeadRule(line(1), [9]), [10], [0])

    def test_dues_of_many(self):
        for net in NETS:
            names = [(3 * at + 7) % 10 for at in range(net.size)]
            rule = LeadRule(net, names)
            starts = [(9 - name) * net.size for name in names]
            for cells in drawn_states(rule, 20):
                check_dues(self, rule, cells, dues_by_hand(net, starts, net.size, 10, cells))

    def test_heads(self):
        rule = LeadRule(line(3), [2, 9, 0])
        self.assertEqual(rule.heads([0, 1, 2]), [(9, 0), (9, 1), (9, 2)])
        self.assertEqual(rule.heads([3, 29, 30]), [(8, 0), (0, 2), None])
        self.assertEqual(rule.heads([30, 30, 27]), [None, None, (0, 0)])
        self.assertEqual(LeadRule(line(1), [4]).heads([9]), [(0, 0)])
        self.assertEqual(LeadRule(line(1), [4]).heads([10]), [None])
        self.assertEqual(LeadRule(ring(10), list(range(10))).heads(list(range(91, 101)))[7:], [(0, 8), (0, 9), None])
        wide = LeadRule(ring(10), list(range(10)))
        self.assertEqual(wide.heads([0, 9, 10, 55, 89, 90, 98, 99, 100, 1]), [
            (9, 0), (9, 9), (8, 0), (4, 5), (1, 9), (0, 0), (0, 8), (0, 9), None, (9, 1)])

    def test_calm_states_of_two_machines(self):
        for names in ([3, 7], [9, 0], [0, 1]):
            rule = LeadRule(line(2), names)
            calms = [cells for cells in states(rule) if rule.calm(cells)]
            far = [0, 1] if names[0] > names[1] else [1, 0]
            self.assertEqual([rule.heads(cells) for cells in calms], [[(max(names), one) for one in far]])
        rule = LeadRule(line(1), [6])
        self.assertEqual([cells for cells in states(rule) if rule.calm(cells)], [[3]])

    def test_great_nets_come_to_rest(self):
        for net in NETS:
            names = [(3 * at + 7) % 10 for at in range(net.size)]
            rule = LeadRule(net, names)
            far = far_from(net, names.index(max(names)))
            right = [(9 - max(names)) * net.size + one for one in far]
            self.assertEqual(rule.heads(right), [(max(names), one) for one in far])
            check_rest(self, rule, right)

    def test_every_state_falls(self):
        check_every_state(self, LeadRule(line(1), [0]))
        check_every_state(self, LeadRule(line(1), [9]))
        for names in ([3, 7], [9, 0], [0, 1]):
            check_every_state(self, LeadRule(line(2), names))

    def test_drawn_states_fall(self):
        for net in NETS:
            rule = LeadRule(net, list(range(net.size)))
            for cells in drawn_states(rule, 10):
                check_falling(self, rule, cells)

    def test_measure_and_most(self):
        rule = LeadRule(line(2), [8, 9])
        self.assertEqual(rule.measure([1, 0]), 0)
        # Twenty cells below the top, so forty figures with base 3: machine 0 ought to have 1.
        self.assertEqual(rule.measure([2, 0]), 3 ** 36)
        self.assertEqual(rule.measure([1, 1]), 3 ** 38 + 3 ** 37)
        self.assertEqual((rule.most(), rule.soon(0), rule.soon(9)), (3 ** 40 - 1,) * 3)

    def test_names_stay_and_may_change_behind_the_making(self):
        names = [2, 9, 0]
        rule = LeadRule(line(3), names)
        self.assertEqual(names, [2, 9, 0])
        names[1] = 1
        names.append(5)
        check_dues(self, rule, [30, 30, 30], [21, 0, 27])
        names.clear()
        check_dues(self, rule, [30, 30, 30], [21, 0, 27])
        self.assertEqual(rule.heads([30, 0, 29]), [None, (9, 0), (0, 2)])

    def test_lists_stay_and_are_the_askers_own(self):
        rule = LeadRule(line(3), [2, 9, 0])
        for cells in ([1, 0, 1], [30, 30, 30], [7, 22, 28]):
            check_lists(self, rule, cells)
            check_own(self, rule.heads, list(cells))


class WaysTest(unittest.TestCase):
    def test_ways_changed_behind_the_making(self):
        ways = [(0, 1), (1, 2)]
        net = Net(3, ways)
        rules = [LeastRule(net, [0, None, None], 3, 1), FarRule(net, 0), LeadRule(net, [9, 3, 4])]
        ways.clear()
        net.ways().clear()
        net.beside(1).clear()
        for rule in rules:
            self.assertIs(rule.calm([0, 1, 2]), True)


if __name__ == "__main__":
    unittest.main()
