"""What is promised over the whole program (points 2, 3, 9 and 30), by runs, drives and mendings of every rule."""

import random
import unittest

from calmring.downward import CountRule, PaintRule
from calmring.faults import mend, spoil
from calmring.growing import GrowRule
from calmring.leasts import FarRule, LeadRule, LeastRule
from calmring.nets import Net, line, ring
from calmring.passing import PassRule
from calmring.runs import calm_at, drive, fair, run
from promises import NINES, check_falling, drawn_registers, drawn_turn, kite, mixed, small_nets, star, states, whole

PARENTS = [[], [0], [0, 0], [0, 1], [0, 1, 1, 0], [0, 1, 2, 3], [0, 0, 0, 0, 0], [0, 1, 1, 2, 2, 4, 0, 7, 0]]
LEAD_NAMES = [4, 0, 9, 2, 7, 1, 8, 3, 6, 5]


def nets():
    return small_nets(4) + [line(5), star(5), ring(5), mixed()]


def fars(net, root):
    """How far each machine is from the root, by going outward from it."""
    far, edge = {root: 0}, [root]
    while edge:
        edge = sorted({other for at in edge for other in net.beside(at) if other not in far})
        far.update({at: max(far.values()) + 1 for at in edge})
    return [far[at] for at in range(net.size)]


def heads_of(elders, top):
    """By machine, how many machines are in the part that it heads, where `elders` tell a tree with the root `top`."""
    counts = [0] * len(elders)
    for at in range(len(elders)):
        seen, above = [at], at
        while above != top:
            above = elders[above]
            if above is None or above in seen:
                return None
            seen.append(above)
        for one in seen:
            counts[one] += 1
    return counts


def pass_ought(rule, cells):
    """Point 11: just one has the right, and behind its deed the next one."""
    first = [0] if cells[0] == cells[-1] else []
    right = first + [at for at in range(1, rule.size) if cells[at] != cells[at - 1]]
    return len(right) == 1 and rule.movers(rule.turned(cells, right)) == [(right[0] + 1) % rule.size]


def rules():
    """Every rule of points 10 to 21, small and a few great, each with what a calm state of it ought to be."""
    found = [(PassRule(size, span), pass_ought) for size, span in [(2, 2), (2, 5), (3, 3), (4, 4), (5, 8), (20, 20)]]
    for parents in PARENTS:
        found.append((CountRule(parents), count_ought(parents)))
    for net in nets():
        found.append((PaintRule(net), paint_ought(net)))
        for root in sorted({0, net.size // 2, net.size - 1}):
            found.append((FarRule(net, root), far_ought(net, root)))
            found.append((GrowRule(net, root), grow_ought(net, root)))
        for shift in (0, 3):
            names = (LEAD_NAMES[shift:] + LEAD_NAMES[:shift])[:net.size]
            found.append((LeadRule(net, names), lead_ought(net, names)))
    # Of the least rule itself nothing more is told of its calm states than that nobody may.
    found.append((LeastRule(kite(), [None, 3, 0, None], 3, 2), nobody_may))
    found.append((LeastRule(ring(5), [None] * 5, 1, 4), nobody_may))
    found.append((LeastRule(whole(4), [7, None, 2, 2], 4, 2), nobody_may))
    return found


def nobody_may(rule, cells):
    return [rule.due(cells, at) for at in range(rule.size)] == cells


def paint_ought(net):
    return lambda rule, cells: all(cells[lower] != cells[higher] for lower, higher in net.ways())


def count_ought(parents):
    return lambda rule, cells: cells == heads_of([None] + parents, 0)


def far_ought(net, root):
    return lambda rule, cells: cells == fars(net, root)


def lead_ought(net, names):
    leader = names.index(max(names))
    return lambda rule, cells: rule.heads(cells) == [(max(names), far) for far in fars(net, leader)]


def grow_ought(net, root):
    def ought(rule, cells):
        far, elders = fars(net, root), rule.elders(cells)
        counts = heads_of(elders, root)
        return (elders[root] is None and counts is not None and counts[root] == net.size
                and all(at == root or elders[at] in net.beside(at) for at in range(net.size))
                and rule.parts(cells) == list(zip(far, counts)))

    return ought


def first_hand(number, movers):
    return movers[:1]


def last_hand(number, movers):
    return movers[-1:]


def hands(draw, rule):
    """Hands of all sorts; those of rules that are not alone name many too."""
    found = [first_hand, last_hand, lambda number, movers: [draw.choice(movers)],
             lambda number, movers: drawn_turn(draw, rule)]
    if not rule.alone:
        found += [lambda number, movers: movers[::-1], lambda number, movers: list(range(rule.size)),
                  lambda number, movers: draw.sample(movers, draw.randint(1, len(movers)))]
    return found


def check_way(test, rule, ought, registers, rows):
    """Point 3 along the rows of a run: the measure falls while it is wild, calm stays calm and is as it ought to be."""
    cells, deeds = rule.read(registers), 0
    first = measure = check_state(test, rule, ought, cells)
    for done, behind in rows:
        calm = rule.calm(cells)
        if done:
            deeds += not calm
            ahead, measure = measure, check_state(test, rule, ought, behind)
            if calm:
                test.assertTrue(rule.calm(behind), (cells, behind))
            else:
                test.assertLess(measure, ahead, (cells, behind))
        else:
            test.assertEqual(behind, cells)
        cells = behind
    test.assertLessEqual(deeds, first)


def check_state(test, rule, ought, cells):
    """What is promised of one state; tells its measure."""
    measure = rule.measure(cells)
    test.assertTrue(0 <= measure <= rule.most(), cells)
    if rule.calm(cells):
        test.assertTrue(ought(rule, cells), cells)
    else:
        test.assertNotEqual(rule.movers(cells), [], cells)
    return measure


def drawn_calm(draw, rule):
    """A calm state, come to from a drawn one."""
    cells = rule.read(drawn_registers(draw, rule))
    while not rule.calm(cells):
        cells = rule.turned(cells, [draw.choice(rule.movers(cells))])
    return cells


def drawn_faults(draw, rule, count):
    return [(draw.randrange(rule.size), draw.choice([0, -1, draw.randrange(rule.span), draw.randint(-NINES, NINES)]))
            for fault in range(count)]


class WholeTest(unittest.TestCase):
    def test_drives_come_to_rest_and_stay_so(self):
        draw = random.Random(3)
        for rule, ought in rules():
            for hand in hands(draw, rule):
                registers = drawn_registers(draw, rule)
                rows = drive(rule, registers, hand, 300)
                check_way(self, rule, ought, registers, rows)

    def test_drives_by_movers_end_calm_within_the_measure(self):
        draw = random.Random(4)
        for rule, ought in rules():
            for hand in (first_hand, last_hand, lambda number, movers: [draw.choice(movers)]):
                registers = drawn_registers(draw, rule)
                most = rule.measure(rule.read(registers))
                rows = drive(rule, registers, hand, min(most, 3000))
                behind = calm_at(rule, registers, rows)
                self.assertIsNotNone(behind, registers)
                self.assertLessEqual(behind, most)
                self.assertTrue(ought(rule, (rows[behind - 1][1] if behind else rule.read(registers))))

    def test_runs(self):
        draw = random.Random(5)
        for rule, ought in rules():
            for length in (0, 1, 10, 60):
                registers = drawn_registers(draw, rule)
                turns = [drawn_turn(draw, rule) for turn in range(length)]
                rows = run(rule, registers, turns)
                self.assertEqual(len(rows), length)
                check_way(self, rule, ought, registers, rows)

    def test_turns_at_drawn_states(self):
        draw = random.Random(6)
        for rule, ought in rules():
            if rule.size <= 5:
                for turn in range(3):
                    check_falling(self, rule, rule.read(drawn_registers(draw, rule)))

    def test_calm_states_of_the_smallest(self):
        for rule, ought in rules():
            if rule.span ** rule.size <= 700:
                calms = [cells for cells in states(rule) if rule.calm(cells)]
                self.assertNotEqual(calms, [])
                for cells in calms:
                    self.assertTrue(ought(rule, cells), cells)

    def test_faults_in_a_calm_state(self):
        draw = random.Random(9)
        for rule, ought in rules():
            for count in (0, 1, 1, 2, 2, 3, 5):
                cells, faults = drawn_calm(draw, rule), drawn_faults(draw, rule, count)
                turns = [drawn_turn(draw, rule) for turn in range(40)]
                reach = rule.reach([at for at, number in faults])
                touched, behind = mend(rule, cells, faults, turns)
                self.assertLessEqual(set(touched), set(reach), (cells, faults))
                spoiled = rule.read(spoil(cells, faults))
                self.assertLessEqual(rule.measure(spoiled), rule.soon(count), (cells, faults))
                if count == 0:
                    self.assertEqual((touched, behind), ([], 0))
                check_way(self, rule, ought, spoiled, run(rule, spoiled, turns))

    def test_faults_are_mended_within_the_measure(self):
        draw = random.Random(10)
        for rule, ought in rules():
            cells, faults = drawn_calm(draw, rule), drawn_faults(draw, rule, 2)
            spoiled = spoil(cells, faults)
            rows = drive(rule, spoiled, lambda number, movers: [draw.choice(movers)], min(rule.soon(2), 3000))
            turns = [row[0] for row in rows]
            touched, behind = mend(rule, cells, faults, turns)
            self.assertEqual(behind, calm_at(rule, spoiled, rows))
            self.assertIsNotNone(behind)
            self.assertLessEqual(behind, rule.soon(2))
            self.assertEqual(touched, sorted({at for row in rows[:behind] for at in row[0]}))

    def test_fair_turns_lead_on(self):
        draw = random.Random(30)
        for rule, ought in rules():
            within = rule.size if rule.alone else draw.randint(1, rule.size)
            for turn in range(2):
                # The same turns over and over name in any so many turns what the first so many name.
                turns = self.fair_turns(draw, rule, within) * 3
                self.assertTrue(fair(rule.size, turns, within))
                registers = drawn_registers(draw, rule)
                ways = [rule.read(registers)] + [row[1] for row in run(rule, registers, turns)]
                for first in range(len(turns) - within + 1):
                    some = ways[first:first + within + 1]
                    if not rule.calm(some[0]):
                        calm = any(rule.calm(cells) for cells in some)
                        self.assertTrue(calm or rule.measure(some[-1]) < rule.measure(some[0]), some)

    def fair_turns(self, draw, rule, within):
        order = draw.sample(range(rule.size), rule.size)
        return [order[first::within] for first in range(within)]


class OwnTest(unittest.TestCase):
    """Point 2 over more than one call: nothing done to a list behind the call changes what is told later."""

    def test_lists_handed_in_may_change_behind_the_making(self):
        ways, parents, names = [(0, 1), (1, 2)], [0, 0], [2, 9, 0]
        net = Net(3, ways)
        made = [CountRule(parents), LeadRule(net, names), PaintRule(net), FarRule(net, 0), GrowRule(net, 0)]
        told = [drive(rule, [1, 0, 30], last_hand, 300) for rule in made]
        for handed in (ways, parents, names):
            handed.clear()
        self.assertEqual([drive(rule, [1, 0, 30], last_hand, 300) for rule in made], told)

    def test_told_cells_may_be_handed_in_again(self):
        draw = random.Random(2)
        for rule, ought in rules():
            registers = drawn_registers(draw, rule)
            turns = [drawn_turn(draw, rule) for turn in range(8)]
            rows = run(rule, registers, turns)
            self.assertEqual(run(rule, rows[3][1], turns[4:]), rows[4:])
            rows[3][1][0] = -5
            self.assertEqual(run(rule, registers, turns)[4:], rows[4:])


if __name__ == "__main__":
    unittest.main()
