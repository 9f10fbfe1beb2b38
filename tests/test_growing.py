import random
import unittest

from calmring.errors import BadRule
from calmring.growing import GrowRule
from calmring.leasts import FarRule
from calmring.nets import Net, far_from, line, ring
from calmring.rules import Rule
from promises import (
    GREAT, NINES, check_bad_turns, check_dues, check_every_state, check_falling, check_lists, check_own,
    check_reach_all, check_reading, drawn_states, kite, mixed, small_nets, star, states, whole)

NETS = small_nets(4) + [line(10), ring(10), star(10), whole(10), mixed()]


def joined(size, fars, counts):
    return [far * (size + 1) + count for far, count in zip(fars, counts)]


def nearly_grown(net, root, count):
    """States whose fars are mostly as they ought to be, so that the counts have much to do."""
    draw = random.Random(23)
    found = []
    for turn in range(count):
        fars = far_from(net, root)
        for at in range(turn % 3):
            fars[draw.randrange(net.size)] = draw.randrange(net.size + 1)
        found.append(joined(net.size, fars, [draw.randrange(net.size + 1) for at in range(net.size)]))
    return found


class ByHand:
    """Point 20, word by word, for one net, root and state."""

    def __init__(self, net, root, cells):
        size = net.size
        self.size = size
        self.fars = [cell // (size + 1) for cell in cells]
        self.counts = [cell - far * (size + 1) for cell, far in zip(cells, self.fars)]
        self.elders = [None] * size
        for at in range(size):
            for other in range(size - 1, -1, -1):
                if at != root and other in net.beside(at) and self.fars[other] + 1 == self.fars[at]:
                    self.elders[at] = other
        self.due_fars = [0 if at == root else size for at in range(size)]
        for at in range(size):
            for other in net.beside(at):
                if self.fars[other] + 1 < size:
                    self.due_fars[at] = min(self.due_fars[at], self.fars[other] + 1)
        self.due_counts = [1] * size
        for kid in range(size):
            if self.elders[kid] is not None:
                self.due_counts[self.elders[kid]] += self.counts[kid]
        self.due_counts = [min(size, count) for count in self.due_counts]

    def dues(self):
        found = []
        for at in range(self.size):
            if self.due_fars[at] != self.fars[at]:
                found.append(self.due_fars[at] * (self.size + 1) + self.counts[at])
            else:
                found.append(self.fars[at] * (self.size + 1) + self.due_counts[at])
        return found

    def measure(self):
        order = sorted(range(self.size), key=lambda at: (self.fars[at], at))
        wrong = sum(2 ** order.index(at) for at in range(self.size) if self.counts[at] != self.due_counts[at])
        figures = []
        for k in range(self.size):
            figures.append(sum(a == k < b for a, b in zip(self.fars, self.due_fars)))
            figures.append(sum(b == k < a for a, b in zip(self.fars, self.due_fars)))
        number = 0
        for figure in figures:
            number = number * (self.size + 1) + figure
        return number * 2 ** self.size + wrong


class MakingTest(unittest.TestCase):
    def test_every_net_and_root(self):
        for net in NETS:
            for root in range(net.size):
                rule = GrowRule(net, root)
                self.assertIsInstance(rule, Rule)
                self.assertEqual((rule.size, rule.span), (net.size, (net.size + 1) ** 2))
                self.assertIs(rule.alone, True)
            check_reading(self, GrowRule(net, 0))
            check_bad_turns(self, GrowRule(net, 0))
            check_reach_all(self, GrowRule(net, 0))

    def test_a_root_that_is_no_machine(self):
        for net in NETS:
            for root in (net.size, net.size + 1, 10, 300, GREAT, NINES, -1, -2, -net.size, -GREAT):
                with self.subTest(size=net.size, root=root):
                    with self.assertRaises(BadRule):
                        GrowRule(net, root)


class PartsTest(unittest.TestCase):
    def test_parts(self):
        rule = GrowRule(line(3), 0)
        self.assertEqual(rule.parts([0, 3, 4]), [(0, 0), (0, 3), (1, 0)])
        self.assertEqual(rule.parts([15, 12, 6]), [(3, 3), (3, 0), (1, 2)])
        self.assertEqual(GrowRule(line(1), 0).parts([3]), [(1, 1)])
        self.assertEqual(GrowRule(mixed(), 0).parts([120, 0, 10, 11, 109, 110, 1, 21, 22, 54]), [
            (10, 10), (0, 0), (0, 10), (1, 0), (9, 10), (10, 0), (0, 1), (1, 10), (2, 0), (4, 10)])

    def test_every_part(self):
        rule = GrowRule(line(2), 0)
        told = [rule.parts([cell, 0])[0] for cell in range(9)]
        self.assertEqual(told, [(far, count) for far in range(3) for count in range(3)])


class EldersTest(unittest.TestCase):
    def elders(self, net, root, fars):
        return GrowRule(net, root).elders(joined(net.size, fars, [net.size] * net.size))

    def test_by_hand(self):
        self.assertEqual(self.elders(line(4), 0, [0, 1, 2, 3]), [None, 0, 1, 2])
        self.assertEqual(self.elders(line(4), 2, [2, 1, 0, 1]), [1, 2, None, 2])
        self.assertEqual(self.elders(line(1), 0, [0]), [None])
        self.assertEqual(self.elders(line(1), 0, [1]), [None])

    def test_the_root_has_none(self):
        self.assertEqual(self.elders(line(3), 1, [0, 1, 0]), [None, None, None])
        self.assertEqual(self.elders(line(3), 1, [0, 3, 2]), [None, None, None])
        self.assertEqual(self.elders(line(3), 1, [2, 1, 0]), [1, None, None])

    def test_none_where_no_neighbour_is_nearer_by_1(self):
        self.assertEqual(self.elders(line(4), 0, [0, 0, 0, 0]), [None, None, None, None])
        self.assertEqual(self.elders(line(4), 0, [0, 2, 2, 3]), [None, None, None, 2])
        self.assertEqual(self.elders(line(4), 0, [0, 3, 1, 2]), [None, None, None, 2])

    def test_the_least_such_neighbour(self):
        self.assertEqual(self.elders(ring(4), 0, [0, 1, 2, 1]), [None, 0, 1, 0])
        self.assertEqual(self.elders(ring(4), 2, [2, 1, 0, 1]), [1, 2, None, 2])
        self.assertEqual(self.elders(whole(4), 3, [2, 1, 1, 0]), [1, 3, 3, None])
        self.assertEqual(self.elders(whole(4), 3, [3, 2, 2, 2]), [1, None, None, None])
        self.assertEqual(self.elders(kite(), 0, [0, 1, 2, 1]), [None, 0, 3, 0])

    def test_of_many(self):
        for net in NETS:
            for root in range(net.size):
                rule = GrowRule(net, root)
                for cells in drawn_states(rule, 10) + nearly_grown(net, root, 10):
                    hand = ByHand(net, root, cells)
                    self.assertEqual(rule.elders(cells), hand.elders)
                    self.assertEqual(rule.parts(cells), list(zip(hand.fars, hand.counts)))


class DueTest(unittest.TestCase):
    def check(self, net, root, ahead, behind):
        cells, dues = joined(net.size, *ahead), joined(net.size, *behind)
        check_dues(self, GrowRule(net, root), cells, dues)

    def test_where_the_far_is_not_due(self):
        self.check(line(2), 0, ([1, 0], [2, 1]), ([0, 2], [2, 1]))
        self.check(line(3), 0, ([3, 3, 3], [0, 1, 2]), ([0, 3, 3], [0, 1, 1]))
        self.check(line(3), 1, ([0, 0, 0], [3, 0, 2]), ([1, 0, 1], [3, 1, 2]))

    def test_where_the_far_is_due(self):
        self.check(line(3), 0, ([0, 1, 2], [0, 0, 0]), ([0, 1, 2], [1, 1, 1]))
        self.check(line(3), 0, ([0, 1, 2], [3, 2, 1]), ([0, 1, 2], [3, 2, 1]))
        self.check(line(3), 1, ([1, 0, 1], [1, 0, 1]), ([1, 0, 1], [1, 3, 1]))
        self.check(line(1), 0, ([0], [0]), ([0], [1]))
        self.check(line(1), 0, ([1], [1]), ([0], [1]))

    def test_the_count_is_at_most_the_size(self):
        self.check(line(3), 0, ([0, 1, 2], [0, 2, 3]), ([0, 1, 2], [3, 3, 1]))
        self.check(line(3), 0, ([0, 1, 2], [3, 3, 2]), ([0, 1, 2], [3, 3, 1]))
        self.check(star(4), 0, ([0, 1, 1, 1], [0, 4, 4, 4]), ([0, 1, 1, 1], [4, 1, 1, 1]))

    def test_kids_count_for_the_least_elder_alone(self):
        self.check(ring(4), 0, ([0, 1, 2, 1], [4, 2, 1, 1]), ([0, 1, 2, 1], [4, 2, 1, 1]))
        self.check(ring(4), 0, ([0, 1, 2, 1], [4, 1, 2, 3]), ([0, 1, 2, 1], [4, 3, 1, 1]))

    def test_kids_whose_far_is_not_due_count_too(self):
        self.check(ring(3), 0, ([0, 1, 2], [0, 0, 2]), ([0, 1, 1], [1, 3, 2]))

    def test_of_many(self):
        for net in NETS:
            for root in range(net.size):
                rule = GrowRule(net, root)
                for cells in drawn_states(rule, 8) + nearly_grown(net, root, 8):
                    check_dues(self, rule, cells, ByHand(net, root, cells).dues())

    def test_every_state_of_the_smallest(self):
        for net in small_nets(2):
            for root in range(net.size):
                rule = GrowRule(net, root)
                for cells in states(rule):
                    check_dues(self, rule, cells, ByHand(net, root, cells).dues())


class MeasureTest(unittest.TestCase):
    def test_by_hand(self):
        rule = GrowRule(line(2), 0)
        for fars, counts, measure in (
                ([0, 1], [2, 1], 0), ([0, 1], [1, 1], 1), ([0, 1], [0, 0], 1 + 2), ([0, 1], [1, 0], 2),
                ([1, 0], [2, 1], (27 + 9) * 4 + 2), ([1, 0], [1, 0], (27 + 9) * 4 + 1),
                ([2, 2], [1, 1], 9 * 4), ([2, 2], [0, 1], 9 * 4 + 1), ([2, 2], [1, 2], 9 * 4 + 2),
                ([0, 2], [1, 1], 1 * 4), ([0, 0], [0, 0], 27 * 4 + 3)):
            self.assertEqual(rule.measure(joined(2, fars, counts)), measure, (fars, counts))

    def test_ranks_go_by_the_far_first(self):
        rule = GrowRule(line(3), 2)
        self.assertEqual(rule.measure(joined(3, [2, 1, 0], [1, 2, 0])), 1)
        self.assertEqual(rule.measure(joined(3, [2, 1, 0], [1, 0, 1])), 2)
        self.assertEqual(rule.measure(joined(3, [2, 1, 0], [3, 3, 3])), 4)
        middle = GrowRule(line(3), 1)
        self.assertEqual(middle.measure(joined(3, [1, 0, 1], [0, 2, 1])), 2)
        self.assertEqual(middle.measure(joined(3, [1, 0, 1], [1, 2, 0])), 4)

    def test_of_many(self):
        for net in NETS:
            for root in range(net.size):
                rule = GrowRule(net, root)
                for cells in drawn_states(rule, 8) + nearly_grown(net, root, 8):
                    self.assertEqual(rule.measure(cells), ByHand(net, root, cells).measure())

    def test_most_and_soon(self):
        self.assertEqual(GrowRule(line(1), 0).most(), 4 * 2 - 1)
        self.assertEqual(GrowRule(line(2), 1).most(), 81 * 4 - 1)
        for net in NETS:
            most = (net.size + 1) ** (2 * net.size) * 2 ** net.size - 1
            rule = GrowRule(net, net.size - 1)
            self.assertEqual(rule.most(), most)
            self.assertEqual(rule.most(), (FarRule(net, 0).most() + 1) * 2 ** net.size - 1)
            for count in (0, 1, 300, GREAT):
                self.assertEqual(rule.soon(count), most)

    def test_every_state_of_the_smallest_falls(self):
        for net in small_nets(2):
            for root in range(net.size):
                check_every_state(self, GrowRule(net, root))

    def test_states_of_three_machines_fall(self):
        for net in small_nets(3):
            for root in range(net.size):
                rule = GrowRule(net, root)
                for cells in states(rule)[::7]:
                    check_falling(self, rule, cells)

    def test_drawn_states_fall(self):
        for net in NETS:
            for root in (0, net.size - 1):
                rule = GrowRule(net, root)
                for cells in drawn_states(rule, 6) + nearly_grown(net, root, 12):
                    check_falling(self, rule, cells)


class CalmTest(unittest.TestCase):
    def check_grown(self, net, root, cells):
        """Point 21."""
        rule = GrowRule(net, root)
        parts, elders = rule.parts(cells), rule.elders(cells)
        self.assertEqual([part[0] for part in parts], far_from(net, root))
        heads = [0] * net.size
        for at in range(net.size):
            steps, head = 0, at
            while head is not None:
                heads[head] += 1
                last, head = head, elders[head]
                steps += 1
                self.assertLessEqual(steps, net.size)
            self.assertEqual(last, root)
        self.assertEqual([part[1] for part in parts], heads)
        self.assertEqual(parts[root], (0, net.size))

    def test_calm_states_of_the_smallest(self):
        for net in small_nets(3):
            for root in range(net.size):
                rule = GrowRule(net, root)
                calms = [cells for cells in states(rule) if rule.calm(cells)]
                self.assertEqual(len(calms), 1)
                self.check_grown(net, root, calms[0])

    def test_great_nets_come_to_rest(self):
        draw = random.Random(29)
        for net in NETS:
            for root in (0, net.size // 2, net.size - 1):
                rule = GrowRule(net, root)
                cells = rule.read([draw.randrange(-NINES, NINES) for at in range(net.size)])
                measure = rule.measure(cells)
                while not rule.calm(cells):
                    self.assertNotEqual(rule.movers(cells), [])
                    cells = rule.turned(cells, [draw.choice(rule.movers(cells))])
                    behind = rule.measure(cells)
                    self.assertLess(behind, measure)
                    measure = behind
                self.check_grown(net, root, cells)


class ListsTest(unittest.TestCase):
    def test_lists_stay_and_are_the_askers_own(self):
        rule = GrowRule(kite(), 0)
        for cells in (joined(4, [0, 1, 2, 1], [4, 1, 1, 2]), [24, 0, 13, 7], [0, 0, 0, 0]):
            check_lists(self, rule, cells)
            check_own(self, rule.parts, list(cells))
            check_own(self, rule.elders, list(cells))

    def test_ways_changed_behind_the_making(self):
        ways = [(0, 1), (1, 2)]
        net = Net(3, ways)
        rule = GrowRule(net, 0)
        ways.clear()
        net.beside(1).clear()
        self.assertIs(rule.calm(joined(3, [0, 1, 2], [3, 2, 1])), True)


if __name__ == "__main__":
    unittest.main()
