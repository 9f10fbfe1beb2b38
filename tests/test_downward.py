import random
import unittest

from calmring.downward import CountRule, DownRule, PaintRule
from calmring.errors import BadRule
from calmring.nets import Net, line, ring
from calmring.rules import Rule
from promises import (
    GREAT, NINES, check_bad_turns, check_dues, check_every_state, check_falling, check_lists, check_own,
    check_reach_holds, check_reading, drawn_states, kite, mixed, small_nets, sets_of, star, states, whole)

PATH = [0, 1, 2, 3]
STAR = [0, 0, 0, 0]
TREE = [0, 0, 1, 1, 3, 2, 2, 0, 7]
SMALL_TREES = [[], [0], [0, 0], [0, 1], [0, 0, 0], [0, 1, 2], [0, 1, 1], [0, 0, 1], [0, 0, 2]]
NETS = small_nets(4) + [line(10), ring(10), star(10), whole(10), mixed(), ring(5)]


def colours(net, cells):
    """What each machine ought to hold by the colours of its lower neighbours."""
    dues = []
    for at in range(net.size):
        taken = {cells[other] for other in net.beside(at) if other < at}
        dues.append(min(set(range(net.size)) - taken))
    return dues


def kids_of(parents, at):
    return [kid for kid in range(1, len(parents) + 1) if parents[kid - 1] == at]


def counts(parents, cells):
    size = len(parents) + 1
    return [min(size, 1 + sum(cells[kid] for kid in kids_of(parents, at))) for at in range(size)]


def headed(parents, at):
    return 1 + sum(headed(parents, kid) for kid in kids_of(parents, at))


def reach_by_hand(rule, spoiled):
    found = set(spoiled)
    while True:
        more = found | {at for at in range(rule.size) if found & set(rule.hangs_on(at))}
        if more == found:
            return sorted(found)
        found = more


class WeightRule(DownRule):
    """A rule under DownRule: each machine ought to hold the cell of the next one, the last one nought."""

    def hangs_on(self, at):
        return [at + 1] if at + 1 < self.size else []

    def rank(self, at):
        return at

    def due(self, cells, at):
        return (cells + [0])[at + 1]


class DownTest(unittest.TestCase):
    def test_itself(self):
        for size, span in ((1, 1), (1, 5), (3, 4), (10, 7)):
            rule = DownRule(size, span)
            self.assertIsInstance(rule, Rule)
            self.assertEqual((rule.size, rule.span), (size, span))
            self.assertIs(rule.alone, False)
            for at in range(size):
                self.assertEqual(rule.hangs_on(at), [])
                self.assertEqual(rule.rank(at), 0)
            for cells in ([0] * size, [span - 1] * size):
                check_dues(self, rule, cells, list(cells))
                self.assertIs(rule.calm(cells), True)
                self.assertEqual(rule.measure(cells), 0)
            self.assertEqual(rule.most(), 2 ** size - 1)
            for count in (0, 1, 300, GREAT):
                self.assertEqual(rule.soon(count), 2 ** size - 1)
            check_reading(self, rule)
            check_bad_turns(self, rule)

    def test_reach_of_itself_is_the_list(self):
        rule = DownRule(4, 3)
        self.assertEqual(rule.reach([]), [])
        self.assertEqual(rule.reach([2]), [2])
        self.assertEqual(rule.reach([3, 0, 3, 1]), [0, 1, 3])

    def test_a_rule_under_it(self):
        rule = WeightRule(4, 3)
        self.assertEqual(rule.movers([0, 1, 1, 2]), [0, 2, 3])
        self.assertEqual(rule.measure([0, 1, 1, 2]), 1 + 4 + 8)
        self.assertEqual(rule.reach([2]), [0, 1, 2])
        check_every_state(self, rule)

    def test_lists_stay_and_are_the_askers_own(self):
        for rule in (DownRule(3, 4), WeightRule(3, 4)):
            check_lists(self, rule, [1, 0, 3])
            for at in range(3):
                check_own(self, rule.hangs_on, at)


class PaintTest(unittest.TestCase):
    def test_making(self):
        for net in NETS:
            rule = PaintRule(net)
            self.assertIsInstance(rule, DownRule)
            self.assertEqual((rule.size, rule.span), (net.size, net.size))
            self.assertIs(rule.alone, False)
            check_reading(self, rule)
            check_bad_turns(self, rule)

    def test_hangs_on_the_lower_neighbours(self):
        rule = PaintRule(kite())
        self.assertEqual([rule.hangs_on(at) for at in range(4)], [[], [0], [], [0, 1, 2]])
        for net in NETS:
            rule = PaintRule(net)
            for at in range(net.size):
                self.assertEqual(rule.hangs_on(at), [other for other in range(at) if other in net.beside(at)])

    def test_ranks(self):
        self.assertEqual([PaintRule(kite()).rank(at) for at in range(4)], [3, 2, 1, 0])
        for net in NETS:
            check_ranks(self, PaintRule(net))

    def test_one_machine(self):
        rule = PaintRule(Net(1, []))
        self.assertEqual((rule.size, rule.span), (1, 1))
        self.assertEqual((rule.hangs_on(0), rule.rank(0)), ([], 0))
        check_dues(self, rule, [0], [0])
        self.assertIs(rule.calm(rule.read([17])), True)
        self.assertEqual((rule.measure([0]), rule.most(), rule.reach([]), rule.reach([0, 0])), (0, 1, [], [0]))

    def test_dues_by_hand(self):
        check_dues(self, PaintRule(line(4)), [1, 1, 2, 3], [0, 0, 0, 0])
        check_dues(self, PaintRule(line(4)), [0, 0, 0, 0], [0, 1, 1, 1])
        check_dues(self, PaintRule(ring(4)), [0, 3, 1, 3], [0, 1, 0, 2])
        check_dues(self, PaintRule(whole(4)), [0, 1, 2, 3], [0, 1, 2, 3])
        check_dues(self, PaintRule(whole(4)), [3, 2, 1, 0], [0, 0, 0, 0])
        check_dues(self, PaintRule(whole(4)), [1, 0, 2, 2], [0, 0, 2, 3])
        check_dues(self, PaintRule(star(4)), [2, 2, 2, 2], [0, 0, 0, 0])
        check_dues(self, PaintRule(kite()), [0, 2, 1, 0], [0, 1, 0, 3])

    def test_dues_of_many(self):
        for net in NETS:
            rule = PaintRule(net)
            for cells in (states(rule) if net.size < 5 else drawn_states(rule, 100)):
                check_dues(self, rule, cells, colours(net, cells))

    def test_calm_states_have_no_two_neighbours_alike(self):
        for net in small_nets(4) + [ring(5), whole(5)]:
            rule = PaintRule(net)
            calms = [cells for cells in states(rule) if rule.calm(cells)]
            self.assertEqual(len(calms), 1)
            for cells in calms:
                self.assertEqual(cells, colours(net, cells))
                for lower, higher in net.ways():
                    self.assertNotEqual(cells[lower], cells[higher])

    def test_great_nets_come_to_rest(self):
        for net in NETS:
            check_rest(self, PaintRule(net), lambda cells: all(cells[a] != cells[b] for a, b in net.ways()))

    def test_measure_by_hand(self):
        rule = PaintRule(kite())
        self.assertEqual(rule.measure([0, 1, 0, 2]), 0)
        self.assertEqual(rule.measure([0, 1, 0, 3]), 1)
        self.assertEqual(rule.measure([0, 1, 1, 2]), 2)
        self.assertEqual(rule.measure([0, 1, 2, 2]), 2 + 1)
        self.assertEqual(rule.measure([1, 1, 1, 1]), 8 + 4 + 2 + 1)
        self.assertEqual(rule.measure([3, 0, 0, 1]), 8)
        self.assertEqual(PaintRule(line(10)).measure([1] + [0, 1] * 4 + [0]), 512)

    def test_every_state_falls(self):
        for net in small_nets(4):
            check_every_state(self, PaintRule(net))

    def test_drawn_states_fall(self):
        for net in (ring(6), whole(6), star(6)):
            for cells in drawn_states(PaintRule(net), 60):
                check_falling(self, PaintRule(net), cells)

    def test_most_and_soon(self):
        for net in NETS:
            check_most(self, PaintRule(net))

    def test_reach(self):
        rule = PaintRule(kite())
        self.assertEqual(rule.reach([]), [])
        self.assertEqual(rule.reach([3]), [3])
        self.assertEqual(rule.reach([2]), [2, 3])
        self.assertEqual(rule.reach([1]), [1, 3])
        self.assertEqual(rule.reach([0]), [0, 1, 3])
        self.assertEqual(rule.reach([2, 0]), [0, 1, 2, 3])
        self.assertEqual(rule.reach([3, 2, 3, 2]), [2, 3])
        self.assertEqual(PaintRule(line(10)).reach([4]), [4, 5, 6, 7, 8, 9])
        self.assertEqual(PaintRule(star(10)).reach([4, 2, 4]), [2, 4])

    def test_reach_of_many(self):
        for net in NETS:
            check_reach(self, PaintRule(net))

    def test_nobody_outside_the_reach_ever_moves(self):
        for net in small_nets(4):
            check_reach_holds(self, PaintRule(net))

    def test_lists_stay_and_are_the_askers_own(self):
        net = kite()
        rule = PaintRule(net)
        for cells in ([0, 1, 0, 2], [3, 3, 3, 3], [0, 0, 1, 2]):
            check_lists(self, rule, cells)
        for at in range(4):
            check_own(self, rule.hangs_on, at)
        self.assertEqual(net.ways(), kite().ways())

    def test_ways_changed_behind_the_making(self):
        ways = [(0, 1), (1, 2)]
        rule = PaintRule(Net(3, ways))
        ways.clear()
        self.assertEqual(rule.hangs_on(2), [1])
        self.assertEqual(rule.movers([0, 0, 0]), [1, 2])


class CountTest(unittest.TestCase):
    def test_making(self):
        for parents in SMALL_TREES + [PATH, STAR, TREE, [0] * 9, list(range(9))]:
            rule = CountRule(parents)
            self.assertIsInstance(rule, DownRule)
            self.assertEqual((rule.size, rule.span), (len(parents) + 1, len(parents) + 2))
            self.assertIs(rule.alone, False)
            check_reading(self, rule)
            check_bad_turns(self, rule)

    def test_parents_out_of_their_bounds(self):
        for parents in (TREE, [0] * 9, list(range(9)), [0], [0, 0]):
            for place in range(len(parents)):
                kid = place + 1
                for wrong in (kid, kid + 1, 9, 10, 300, GREAT, NINES, -1, -2, -kid, -GREAT, -NINES):
                    with self.subTest(place=place, wrong=wrong):
                        wronged = list(parents)
                        wronged[place] = wrong
                        if wrong >= kid or wrong < 0:
                            with self.assertRaises(BadRule):
                                CountRule(wronged)

    def test_parents_at_the_edge_of_their_bounds(self):
        for place in range(9):
            for right in range(place + 1):
                parents = [0] * 9
                parents[place] = right
                self.assertIn(place + 1, CountRule(parents).hangs_on(right))

    def test_nine_and_ten_parents(self):
        self.assertEqual(CountRule([0] * 9).size, 10)
        for count in (10, 11, 20, 300):
            with self.assertRaises(BadRule):
                CountRule([0] * count)
            with self.assertRaises(BadRule):
                CountRule(list(range(count)))

    def test_hangs_on_the_kids(self):
        rule = CountRule(TREE)
        kids = [[1, 2, 8], [3, 4], [6, 7], [5], [], [], [], [9], [], []]
        self.assertEqual([rule.hangs_on(at) for at in range(10)], kids)
        self.assertEqual([CountRule(PATH).hangs_on(at) for at in range(5)], [[1], [2], [3], [4], []])
        self.assertEqual([CountRule(STAR).hangs_on(at) for at in range(5)], [[1, 2, 3, 4], [], [], [], []])

    def test_ranks(self):
        self.assertEqual([CountRule(TREE).rank(at) for at in range(10)], list(range(10)))
        for parents in SMALL_TREES + [PATH, STAR, TREE]:
            check_ranks(self, CountRule(parents))

    def test_one_machine(self):
        rule = CountRule([])
        self.assertEqual((rule.size, rule.span, rule.hangs_on(0), rule.rank(0)), (1, 2, [], 0))
        check_dues(self, rule, [0], [1])
        check_dues(self, rule, [1], [1])
        self.assertIs(rule.calm([0]), False)
        self.assertIs(rule.calm([1]), True)
        self.assertEqual((rule.measure([0]), rule.measure([1]), rule.most()), (1, 0, 1))
        self.assertEqual((rule.reach([]), rule.reach([0, 0])), ([], [0]))

    def test_dues_by_hand(self):
        check_dues(self, CountRule(PATH), [0, 0, 0, 0, 0], [1, 1, 1, 1, 1])
        check_dues(self, CountRule(PATH), [5, 4, 3, 2, 1], [5, 4, 3, 2, 1])
        check_dues(self, CountRule(STAR), [0, 1, 0, 1, 0], [3, 1, 1, 1, 1])
        check_dues(self, CountRule(TREE), [10, 4, 3, 2, 1, 1, 1, 2, 1, 1], [9, 4, 4, 2, 1, 1, 1, 2, 1, 1])

    def test_the_count_is_at_most_the_size(self):
        check_dues(self, CountRule(STAR), [0, 1, 1, 1, 1], [5, 1, 1, 1, 1])
        check_dues(self, CountRule(STAR), [0, 1, 1, 1, 2], [5, 1, 1, 1, 1])
        check_dues(self, CountRule(STAR), [5, 5, 5, 5, 5], [5, 1, 1, 1, 1])
        check_dues(self, CountRule(PATH), [5, 5, 5, 5, 5], [5, 5, 5, 5, 1])
        check_dues(self, CountRule(PATH), [0, 3, 4, 5, 0], [4, 5, 5, 1, 1])

    def test_dues_of_many(self):
        for parents in SMALL_TREES + [PATH, STAR, TREE]:
            rule = CountRule(parents)
            for cells in (states(rule) if rule.size < 5 else drawn_states(rule, 100)):
                check_dues(self, rule, cells, counts(parents, cells))

    def test_calm_states_tell_the_parts(self):
        for parents in SMALL_TREES:
            rule = CountRule(parents)
            calms = [cells for cells in states(rule) if rule.calm(cells)]
            self.assertEqual(calms, [[headed(parents, at) for at in range(rule.size)]])

    def test_great_trees_come_to_rest(self):
        for parents in (PATH, STAR, TREE, [0] * 9, list(range(9))):
            parts = [headed(parents, at) for at in range(len(parents) + 1)]
            check_rest(self, CountRule(parents), lambda cells: cells == parts)

    def test_measure_by_hand(self):
        rule = CountRule([0, 0, 1])
        self.assertEqual(rule.measure([4, 2, 1, 1]), 0)
        self.assertEqual(rule.measure([0, 2, 1, 1]), 1)
        self.assertEqual(rule.measure([4, 2, 1, 0]), 2 + 8)
        self.assertEqual(rule.measure([4, 3, 1, 1]), 2)
        self.assertEqual(rule.measure([0, 0, 0, 0]), 15)
        self.assertEqual(rule.measure([4, 1, 3, 2]), 2 + 4 + 8)
        self.assertEqual(CountRule([0] * 9).measure([10] + [1] * 8 + [2]), 512)

    def test_every_state_falls(self):
        for parents in SMALL_TREES:
            check_every_state(self, CountRule(parents))

    def test_drawn_states_fall(self):
        for parents in (PATH, STAR, [0, 0, 1, 1, 2, 4]):
            for cells in drawn_states(CountRule(parents), 60):
                check_falling(self, CountRule(parents), cells)

    def test_most_and_soon(self):
        for parents in SMALL_TREES + [PATH, STAR, TREE]:
            check_most(self, CountRule(parents))

    def test_reach(self):
        rule = CountRule(TREE)
        self.assertEqual(rule.reach([]), [])
        self.assertEqual(rule.reach([0]), [0])
        self.assertEqual(rule.reach([5]), [0, 1, 3, 5])
        self.assertEqual(rule.reach([9]), [0, 2, 7, 9])
        self.assertEqual(rule.reach([9, 4]), [0, 1, 2, 4, 7, 9])
        self.assertEqual(rule.reach([8, 8, 0, 8]), [0, 8])
        self.assertEqual(CountRule(list(range(9))).reach([9]), list(range(10)))

    def test_reach_of_many(self):
        for parents in SMALL_TREES + [PATH, STAR, TREE]:
            check_reach(self, CountRule(parents))

    def test_nobody_outside_the_reach_ever_moves(self):
        for parents in SMALL_TREES:
            check_reach_holds(self, CountRule(parents))

    def test_parents_stay_and_may_change_behind_the_making(self):
        parents = [0, 1, 1]
        rule = CountRule(parents)
        self.assertEqual(parents, [0, 1, 1])
        parents[2] = 0
        parents.append(2)
        self.assertEqual((rule.size, rule.span), (4, 5))
        self.assertEqual([rule.hangs_on(at) for at in range(4)], [[1], [2, 3], [], []])
        self.assertIs(rule.calm([4, 3, 1, 1]), True)
        parents.clear()
        self.assertEqual(rule.reach([3]), [0, 1, 3])

    def test_lists_stay_and_are_the_askers_own(self):
        rule = CountRule([0, 1, 1])
        for cells in ([4, 3, 1, 1], [0, 0, 0, 0], [4, 2, 4, 1]):
            check_lists(self, rule, cells)
        for at in range(4):
            check_own(self, rule.hangs_on, at)


def check_ranks(test, rule):
    test.assertEqual(sorted(rule.rank(at) for at in range(rule.size)), list(range(rule.size)))
    for at in range(rule.size):
        hung = rule.hangs_on(at)
        test.assertEqual(hung, sorted(set(hung)))
        test.assertNotIn(at, hung)
        for other in hung:
            test.assertGreater(rule.rank(other), rule.rank(at))


def check_most(test, rule):
    test.assertEqual(rule.most(), 2 ** rule.size - 1)
    for count in (0, 1, 2, 300, GREAT):
        test.assertEqual(rule.soon(count), 2 ** rule.size - 1)


def check_reach(test, rule):
    lists = [[]] + sets_of(list(range(min(rule.size, 5)))) + [[rule.size - 1, 0, rule.size - 1]]
    for spoiled in lists:
        test.assertEqual(rule.reach(spoiled), reach_by_hand(rule, spoiled))
        test.assertEqual(rule.reach(spoiled[::-1] + spoiled), reach_by_hand(rule, spoiled))


def check_rest(test, rule, right):
    """All named at each turn, from any registers: at most as many turns as the measure told."""
    draw = random.Random(9)
    for turn in range(20):
        cells = rule.read([draw.randrange(-NINES, NINES) for at in range(rule.size)])
        turns, told = 0, rule.measure(cells)
        while not rule.calm(cells):
            cells = rule.turned(cells, list(range(rule.size)))
            turns += 1
            test.assertLessEqual(turns, told)
        test.assertTrue(right(cells), cells)


if __name__ == "__main__":
    unittest.main()
