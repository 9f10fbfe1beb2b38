import random
import unittest

from calmring.downward import CountRule, PaintRule
from calmring.errors import BadState, BadTurn
from calmring.faults import mend, spoil
from calmring.leasts import FarRule
from calmring.nets import line
from calmring.passing import PassRule
from calmring.tables import TableRule
from promises import GREAT, NINES, check_own, drawn_registers, drawn_turns, small_rules


def no_machines(size):
    """Numbers on both sides of the machines, near and far out."""
    return [-1, size, size + 1, -size, -size - 1, GREAT, -GREAT, NINES, -NINES]


def plain_mend(rule, registers, faults, turns):
    """Point 31, word by word, by dues and calm alone."""
    spoiled = list(registers)
    for at, number in faults:
        spoiled[at] = number
    cells = [number - number // rule.span * rule.span for number in spoiled]
    touched = set()
    for turn, named in enumerate(turns):
        if rule.calm(cells):
            return (sorted(touched), turn)
        dues = [rule.due(cells, at) for at in range(rule.size)]
        touched.update(at for at in named if dues[at] != cells[at])
        cells = [dues[at] if at in named else cells[at] for at in range(rule.size)]
    return (sorted(touched), len(turns) if rule.calm(cells) else None)


class SpoilTest(unittest.TestCase):
    def test_no_fault(self):
        self.assertEqual(spoil([3, -1, GREAT], []), [3, -1, GREAT])
        self.assertEqual(spoil([], []), [])

    def test_one(self):
        self.assertEqual(spoil([3, -1, 5], [(0, 9)]), [9, -1, 5])
        self.assertEqual(spoil([3, -1, 5], [(2, 0)]), [3, -1, 0])

    def test_some(self):
        self.assertEqual(spoil([3, -1, 5], [(2, 0), (0, 7)]), [7, -1, 0])
        self.assertEqual(spoil([1], [(0, 1)]), [1])

    def test_a_later_one_over_an_earlier_one(self):
        self.assertEqual(spoil([3, -1, 5], [(1, 8), (1, 6)]), [3, 6, 5])
        self.assertEqual(spoil([3, -1, 5], [(1, 8), (0, 2), (1, -1)]), [2, -1, 5])

    def test_any_whole_number(self):
        for number in (-1, -77, GREAT, -GREAT, NINES, -NINES):
            self.assertEqual(spoil([0, 0], [(1, number)]), [0, number])

    def test_a_machine_that_is_none(self):
        for size in (1, 2, 5):
            for at in no_machines(size):
                for faults in ([(at, 0)], [(0, 1), (at, 0)], [(at, 0), (0, 1)]):
                    registers = [4] * size
                    with self.assertRaises(BadState, msg=(size, faults)):
                        spoil(registers, faults)
                    self.assertEqual(registers, [4] * size)
        with self.assertRaises(BadState):
            spoil([], [(0, 0)])

    def test_lists_stay_and_are_the_askers_own(self):
        check_own(self, spoil, [3, -1, 5], [])
        check_own(self, spoil, [3, -1, 5], [(1, 8), (0, 2), (1, -1)])
        registers = [1, 2]
        self.assertIsNot(spoil(registers, []), registers)


class MendTest(unittest.TestCase):
    def test_by_hand_of_far(self):
        rule = FarRule(line(3), 0)
        # 0 1 2, then 0 3 2: machine 1 mends it.
        self.assertEqual(mend(rule, [0, 1, 2], [(1, 3)], [[0], [1], [2], [0]]), ([1], 2))
        # 0 0 2: machine 2 goes along, then both come back.
        self.assertEqual(mend(rule, [0, 1, 2], [(1, 0)], [[2], [1], [0], [2]]), ([1, 2], 4))

    def test_by_hand_of_paint(self):
        rule = PaintRule(line(3))
        self.assertEqual(mend(rule, [0, 1, 0], [(0, 1)], [[2, 1, 0], [1]]), ([0, 1], 2))
        self.assertEqual(mend(rule, [0, 1, 0], [(0, 1)], [[2], [0]]), ([0], 2))

    def test_no_fault_in_a_calm_state(self):
        self.assertEqual(mend(FarRule(line(3), 0), [0, 1, 2], [], [[0], [1]]), ([], 0))
        self.assertEqual(mend(FarRule(line(3), 0), [0, 1, 2], [], []), ([], 0))

    def test_no_fault_in_a_wild_state(self):
        self.assertEqual(mend(FarRule(line(3), 0), [3, 3, 3], [], [[0], [1], [2]]), ([0, 1, 2], 3))

    def test_two_at_one_machine(self):
        rule = FarRule(line(3), 0)
        self.assertEqual(mend(rule, [0, 1, 2], [(1, 3), (1, 1)], [[1]]), ([], 0))
        self.assertEqual(mend(rule, [0, 1, 2], [(1, 1), (1, 3)], [[1]]), ([1], 1))

    def test_numbers_are_read_as_their_rests(self):
        rule = FarRule(line(3), 0)
        # GREAT is a multiple of 4, as is NINES + 1.
        self.assertEqual(mend(rule, [GREAT, 5, -2], [(1, GREAT + 1)], [[1]]), ([], 0))
        self.assertEqual(mend(rule, [0, 1, 2], [(1, -1)], [[1]]), ([1], 1))
        self.assertEqual(mend(rule, [-GREAT, -3, 2 + GREAT], [(1, NINES)], [[], [1]]), ([1], 2))
        self.assertEqual(mend(rule, [0, 1, 2], [(2, -NINES + 1)], [[1]]), ([], 0))

    def test_the_spoiled_state_calm_at_once(self):
        self.assertEqual(mend(FarRule(line(3), 0), [0, 3, 2], [(1, 1)], [[1], [2]]), ([], 0))
        self.assertEqual(mend(PassRule(3, 4), [1, 3, 1], [(1, 1)], [[0], [1], [2]]), ([], 0))

    def test_calm_never(self):
        rule = FarRule(line(3), 0)
        self.assertEqual(mend(rule, [0, 1, 2], [(0, 3), (1, 3)], [[1], [], [0]]), ([0], None))
        self.assertEqual(mend(rule, [0, 1, 2], [(1, 3)], []), ([], None))
        self.assertEqual(mend(rule, [0, 1, 2], [(1, 3)], [[], [0], [2]]), ([2], None))
        # Never calm: touched are all that did something, rising.
        flip = [1, 1, 1, 1, 0, 0, 0, 0]
        self.assertEqual(mend(TableRule(3, 2, "none", flip, flip), [0, 0, 0], [], [[2], [], [0]]), ([0, 2], None))

    def test_touched_only_ahead_of_the_first_calm_state(self):
        rule = PassRule(3, 4)
        # 1 3 1 is wild, 2 3 3 calm: what the right to pass leads to behind it is not told.
        self.assertEqual(mend(rule, [1, 1, 1], [(1, 3)], [[2, 0], [1], [2], [0]]), ([0, 2], 1))
        self.assertEqual(mend(rule, [1, 1, 1], [(1, 3)], [[], [1], [0], [1]]), ([1], 2))
        copy_left, stay = [0, 0, 1, 1, 0, 0, 1, 1], [0, 0, 0, 0, 1, 1, 1, 1]
        self.assertEqual(mend(TableRule(3, 2, "one", stay, copy_left), [1, 1, 1], [(1, 0)], [[1], [2]]), ([1], None))
        self.assertEqual(mend(TableRule(3, 2, "one", stay, copy_left), [1, 1, 1], [(1, 0)], [[2], [1], [2]]), ([2], 1))

    def test_touched_is_rising_and_tells_each_once(self):
        self.assertEqual(mend(CountRule([0, 0, 1]), [4, 2, 1, 1], [(3, 0), (0, 0)], [[0], [1], [0], [3], [0], [1], [0]]),
                         ([0, 1, 3], 7))

    def test_kinds(self):
        told = mend(FarRule(line(3), 0), [0, 1, 2], [(1, 3)], [[1]])
        self.assertEqual([type(told)] + [type(one) for one in told], [tuple, list, int])

    def test_of_every_rule_by_the_words(self):
        draw = random.Random(31)
        for rule in small_rules():
            for length in (0, 1, 3, 8, 60):
                for count in range(4):
                    registers, turns = drawn_registers(draw, rule), drawn_turns(draw, rule, length)
                    faults = [(draw.randrange(rule.size), draw.choice([0, -1, draw.randint(-NINES, NINES)]))
                              for fault in range(count)]
                    told = mend(rule, registers, faults, turns)
                    self.assertEqual(told, plain_mend(rule, registers, faults, turns))
                    self.assertNotIsInstance(told[1], bool)

    def test_a_machine_that_is_none_ahead_of_all_turns(self):
        for rule in small_rules():
            for at in no_machines(rule.size):
                for turns in ([], [[0]], [[rule.size]], [[0, 0]]):
                    for faults in ([(at, 0)], [(0, 1), (at, 0)], [(at, 0), (0, 1)]):
                        with self.assertRaises(BadState, msg=(rule, faults, turns)):
                            mend(rule, [0] * rule.size, faults, turns)

    def test_registers_too_few_and_too_many_ahead_of_all_turns(self):
        for rule in small_rules():
            for length in (0, rule.size - 1, rule.size + 1, 300):
                for turns in ([], [[0]], [[-1]], [[0, 0]]):
                    for faults in ([], [(0, 5)], [(rule.size - 1, 5)], [(rule.size, 5)]):
                        with self.assertRaises(BadState, msg=(rule, length, faults, turns)):
                            mend(rule, [0] * length, faults, turns)

    def test_any_bad_turn_refuses_it(self):
        for rule in small_rules():
            for wrong in ([rule.size], [-1], [GREAT], [0, 0]):
                for place in range(3):
                    turns = [[0], []]
                    turns.insert(place, wrong)
                    with self.assertRaises(BadTurn, msg=(rule, turns)):
                        mend(rule, [0] * rule.size, [(0, 1)], turns)
        with self.assertRaises(BadTurn):
            mend(FarRule(line(3), 0), [0, 1, 2], [], [[0, 1]])

    def test_a_bad_turn_behind_calm_refuses_it_too(self):
        with self.assertRaises(BadTurn):
            mend(FarRule(line(3), 0), [0, 1, 2], [(1, 3)], [[1], [0], [3]])

    def test_lists_stay_and_are_the_askers_own(self):
        for rule in small_rules():
            registers = [at - 5 for at in range(rule.size)]
            check_own(self, mend, rule, list(registers), [(0, -NINES), (rule.size - 1, 7)], [[0], [], [rule.size - 1]])
            check_own(self, mend, rule, registers, [], [])


if __name__ == "__main__":
    unittest.main()
