import itertools
import random
import unittest

from calmring.downward import CountRule, PaintRule
from calmring.errors import BadState, BadTurn
from calmring.leasts import FarRule
from calmring.nets import line, ring
from calmring.passing import PassRule
from calmring.rules import Rule
from calmring.runs import calm_at, drive, fair, run
from calmring.tables import TableRule
from promises import (
    GREAT, NINES, check_no_list_twice, check_own, copied, drawn_registers, drawn_turns, small_rules, spoil_lists)


def plain_run(rule, registers, turns):
    """Point 28, word by word, by the dues alone."""
    cells = [number - number // rule.span * rule.span for number in registers]
    rows = []
    for named in turns:
        dues = [rule.due(cells, at) for at in range(rule.size)]
        done = sorted(at for at in named if dues[at] != cells[at])
        cells = [dues[at] if at in done else cells[at] for at in range(rule.size)]
        rows.append((done, cells))
    return rows


def bad_turns(rule):
    """Turns that point 7 refuses."""
    wrong = [[rule.size], [-1], [GREAT], [-GREAT], [0, 0], [rule.size - 1, 0, rule.size - 1]]
    return wrong + [[0, 1], [1, 0]] if rule.alone and rule.size > 1 else wrong


class Hand:
    """A hand that notes what it was asked, and names by the def handed in."""

    def __init__(self, names):
        self.names = names
        self.asked = []

    def __call__(self, number, movers):
        self.asked.append((number, list(movers)))
        return self.names(number, movers)


class RunTest(unittest.TestCase):
    def test_rows_of_a_rule_that_is_not_alone(self):
        turns = [[2, 0], [], [1], [0], [2, 1, 0], [1, 0]]
        rows = [([0, 2], [2, 3, 3]), ([], [2, 3, 3]), ([1], [2, 2, 3]), ([], [2, 2, 3]), ([2], [2, 2, 2]),
                ([0], [3, 2, 2])]
        self.assertEqual(run(PassRule(3, 4), [1, 3, 1], turns), rows)

    def test_rows_of_a_rule_that_is_alone(self):
        turns = [[0], [2], [], [1], [0], [2]]
        rows = [([0], [0, 3, 3]), ([], [0, 3, 3]), ([], [0, 3, 3]), ([1], [0, 1, 3]), ([], [0, 1, 3]),
                ([2], [0, 1, 2])]
        self.assertEqual(run(FarRule(line(3), 0), [3, 3, 3], turns), rows)

    def test_all_by_the_cells_ahead_of_the_turn(self):
        self.assertEqual(run(PaintRule(line(3)), [0, 0, 0], [[2, 1], [2], [1, 2]]),
                         [([1, 2], [0, 1, 1]), ([2], [0, 1, 0]), ([], [0, 1, 0])])

    def test_done_is_rising_in_whatever_order_they_are_named(self):
        for named in itertools.permutations(range(4)):
            self.assertEqual(run(CountRule([0, 0, 1]), [0, 0, 0, 0], [list(named)]), [([0, 1, 2, 3], [1, 1, 1, 1])])
        self.assertEqual(run(CountRule([0, 0, 1]), [1, 0, 0, 0], [[3, 0, 1]]), [([1, 3], [1, 1, 0, 1])])

    def test_no_turns(self):
        for rule in small_rules():
            self.assertEqual(run(rule, [5] * rule.size, []), [])

    def test_turns_of_nobody(self):
        for rule in small_rules():
            registers = [7 - at for at in range(rule.size)]
            self.assertEqual(run(rule, registers, [[], [], []]), [([], rule.read(registers))] * 3)

    def test_turns_of_machines_that_may_not(self):
        self.assertEqual(run(Rule(3, 5, False), [4, 9, -1], [[2, 0], [1]]), [([], [4, 4, 4])] * 2)
        self.assertEqual(run(FarRule(line(3), 0), [0, 1, 2], [[2], [0], [1]]), [([], [0, 1, 2])] * 3)
        self.assertEqual(run(PassRule(3, 4), [1, 1, 1], [[2], [2, 1]]), [([], [1, 1, 1])] * 2)

    def test_registers_below_nought_and_of_sixty_figures(self):
        # 10 ** 59 and 10 ** 60 are multiples of 4.
        self.assertEqual(run(PassRule(3, 4), [-3, GREAT + 3, NINES - 2], [[2, 0]]), [([0, 2], [2, 3, 3])])
        self.assertEqual(run(PassRule(3, 4), [1 - GREAT, -NINES - 2, -NINES], [[2, 0]]), [([0, 2], [2, 3, 3])])
        self.assertEqual(run(FarRule(line(3), 0), [-GREAT - 1, NINES, -1], [[0]]), [([0], [0, 3, 3])])

    def test_kinds(self):
        rows = run(PassRule(3, 4), [1, 3, 1], [[2, 0], []])
        self.assertIsInstance(rows, list)
        for row in rows:
            self.assertEqual([type(row)] + [type(one) for one in row], [tuple, list, list])

    def test_of_every_rule_by_the_words(self):
        draw = random.Random(28)
        for rule in small_rules():
            for length in (1, 2, 7, 30):
                registers, turns = drawn_registers(draw, rule), drawn_turns(draw, rule, length)
                rows = run(rule, registers, turns)
                self.assertEqual(rows, plain_run(rule, registers, turns))
                self.assertEqual(run(rule, registers, turns), rows)

    def test_three_hundred_turns(self):
        rows = run(PassRule(20, 20), [0] * 20, [list(range(20))] * 300)
        self.assertEqual(rows, plain_run(PassRule(20, 20), [0] * 20, [list(range(20))] * 300))
        self.assertEqual([row[0] for row in rows], [[turn % 20] for turn in range(300)])

    def test_too_few_and_too_many_registers(self):
        for rule in small_rules():
            for length in (0, rule.size - 1, rule.size + 1, 300):
                for turns in ([], [[]], [[0]], [[rule.size]], [[-1], [0]], [[0, 0]]):
                    with self.assertRaises(BadState, msg=(rule, length, turns)):
                        run(rule, [1] * length, turns)

    def test_a_bad_turn_refuses_the_whole_run(self):
        for rule in small_rules():
            for wrong in bad_turns(rule):
                for place in (0, 3, 6):
                    turns = [[0], [], [rule.size - 1], [0], [], [0]]
                    turns.insert(place, wrong)
                    with self.assertRaises(BadTurn, msg=(rule, turns)):
                        run(rule, [1] * rule.size, turns)

    def test_a_bad_turn_behind_calm_is_refused_too(self):
        with self.assertRaises(BadTurn):
            run(FarRule(line(2), 0), [0, 1], [[0], [1], [2]])

    def test_lists_stay_and_are_the_askers_own(self):
        draw = random.Random(2)
        for rule in small_rules():
            registers, turns = drawn_registers(draw, rule), drawn_turns(draw, rule, 5) + [[], [0], []]
            check_own(self, run, rule, registers, turns)

    def test_a_changed_row_changes_no_other(self):
        for rule in (PassRule(3, 4), FarRule(line(3), 0)):
            for changed in range(4):
                rows = run(rule, [1, 3, 1], [[0], [], [1], []])
                kept = copied(rows)
                spoil_lists(rows[changed])
                for number in range(4):
                    if number != changed:
                        self.assertEqual(rows[number], kept[number])


class DriveTest(unittest.TestCase):
    def test_rows_and_what_the_hand_is_asked(self):
        hand = Hand(lambda number, movers: [movers[-1]])
        rows = drive(FarRule(line(3), 0), [3, 3, 3], hand, 300)
        self.assertEqual(rows, [([0], [0, 3, 3]), ([1], [0, 1, 3]), ([2], [0, 1, 2])])
        self.assertEqual(hand.asked, [(0, [0]), (1, [1]), (2, [2])])

    def test_rows_of_a_rule_that_is_not_alone(self):
        hand = Hand(lambda number, movers: list(reversed(movers)))
        rows = drive(PassRule(3, 4), [1, 3, 1], hand, 4)
        self.assertEqual(rows, [([0, 1, 2], [2, 1, 3]), ([1, 2], [2, 2, 1]), ([2], [2, 2, 2]), ([0], [3, 2, 2])])
        self.assertEqual(hand.asked, [(0, [0, 1, 2]), (1, [1, 2]), (2, [2]), (3, [0])])

    def test_the_number_of_the_turn_is_told(self):
        numbers = [3, 1, 2, 0]
        hand = Hand(lambda number, movers: [numbers[number]])
        rows = drive(CountRule([0, 0, 1]), [4, 4, 4, 4], hand, 4)
        self.assertEqual(rows, [([3], [4, 4, 4, 1]), ([1], [4, 2, 4, 1]), ([2], [4, 2, 1, 1])])
        self.assertEqual([asked[0] for asked in hand.asked], [0, 1, 2])

    def test_most_0_asks_nobody(self):
        for rule in small_rules():
            hand = Hand(lambda number, movers: [])
            self.assertEqual(drive(rule, [1] * rule.size, hand, 0), [])
            self.assertEqual(hand.asked, [])

    def test_most_1(self):
        hand = Hand(lambda number, movers: movers)
        self.assertEqual(drive(PassRule(3, 4), [1, 3, 1], hand, 1), [([0, 1, 2], [2, 1, 3])])
        self.assertEqual(hand.asked, [(0, [0, 1, 2])])

    def test_most_300_and_somebody_always_may(self):
        hand = Hand(lambda number, movers: movers)
        rows = drive(PassRule(4, 5), [0, 0, 0, 0], hand, 300)
        self.assertEqual([row[0] for row in rows], [[turn % 4] for turn in range(300)])
        self.assertEqual(hand.asked, [(turn, [turn % 4]) for turn in range(300)])

    def test_turns_in_which_nobody_does_anything_count_too(self):
        hand = Hand(lambda number, movers: [])
        self.assertEqual(drive(FarRule(line(3), 0), [3, 3, 3], hand, 300), [([], [3, 3, 3])] * 300)
        self.assertEqual(hand.asked, [(turn, [0]) for turn in range(300)])
        hand = Hand(lambda number, movers: [2] if number != 1 else [0])
        self.assertEqual(drive(FarRule(line(3), 0), [3, 3, 3], hand, 3),
                         [([], [3, 3, 3]), ([0], [0, 3, 3]), ([], [0, 3, 3])])
        self.assertEqual(hand.asked, [(0, [0]), (1, [0]), (2, [1])])

    def test_a_hand_that_clears_its_list(self):
        def names_first(number, movers):
            first = movers[0]
            movers.clear()
            movers.append(77)
            return [first]

        hand = Hand(names_first)
        self.assertEqual(drive(PassRule(3, 4), [1, 3, 1], hand, 3),
                         [([0], [2, 3, 1]), ([1], [2, 2, 1]), ([2], [2, 2, 2])])
        self.assertEqual(hand.asked, [(0, [0, 1, 2]), (1, [1, 2]), (2, [2])])

    def test_a_hand_that_clears_its_list_and_names_it(self):
        def names_the_cleared(number, movers):
            movers.clear()
            return movers

        self.assertEqual(drive(PassRule(3, 4), [1, 3, 1], names_the_cleared, 2), [([], [1, 3, 1])] * 2)

    def test_a_hand_that_keeps_its_lists(self):
        kept = []

        def keeps(number, movers):
            for one in kept:
                one.clear()
            kept.append(movers)
            return movers

        rows = drive(PassRule(3, 4), [1, 3, 1], keeps, 4)
        self.assertEqual(rows, [([0, 1, 2], [2, 1, 3]), ([1, 2], [2, 2, 1]), ([2], [2, 2, 2]), ([0], [3, 2, 2])])
        check_no_list_twice(self, [rows, kept])

    def test_no_asking_where_nobody_may(self):
        still = [own for own in range(2) for around in range(4)]
        for rule, registers in [(Rule(3, 5, False), [4, 5, -6]), (FarRule(line(3), 0), [0, 5, 2 - GREAT]),
                                (CountRule([0, 0, 1]), [4, 2, 1, 1]), (TableRule(3, 2, "one", still, still), [0, 1, 1])]:
            hand = Hand(lambda number, movers: movers[:1])
            self.assertEqual(drive(rule, registers, hand, 300), [])
            self.assertEqual(hand.asked, [])

    def test_it_ends_where_nobody_may(self):
        hand = Hand(lambda number, movers: movers)
        rows = drive(PaintRule(ring(5)), [NINES, -GREAT, 5, 0, -5], hand, 300)
        self.assertEqual(rows[-1][1], [0, 1, 0, 1, 2])
        self.assertEqual(len(hand.asked), len(rows))
        self.assertLess(len(rows), 31)

    def test_what_the_hand_names_is_refused_as_at_a_turn(self):
        for rule in small_rules():
            registers = [at * at + 2 for at in range(rule.size)]
            if rule.movers(rule.read(registers)):
                for wrong in bad_turns(rule):
                    with self.assertRaises(BadTurn, msg=(rule, wrong)):
                        drive(rule, registers, Hand(lambda number, movers: list(wrong)), 1)
                    hand = Hand(lambda number, movers: [] if number < 2 else list(wrong))
                    with self.assertRaises(BadTurn, msg=(rule, wrong)):
                        drive(rule, registers, hand, 300)
                    self.assertEqual([asked[0] for asked in hand.asked], [0, 1, 2])
                    self.assertEqual(len(drive(rule, registers, hand, 2)), 2)

    def test_two_for_a_rule_that_is_alone(self):
        with self.assertRaises(BadTurn):
            drive(FarRule(line(3), 0), [3, 0, 3], lambda number, movers: movers, 300)

    def test_too_few_and_too_many_registers_ahead_of_all_asking(self):
        for rule in small_rules():
            for length in (0, rule.size - 1, rule.size + 1, 300):
                for most in (0, 1, 300):
                    hand = Hand(lambda number, movers: [-1])
                    with self.assertRaises(BadState):
                        drive(rule, [1] * length, hand, most)
                    self.assertEqual(hand.asked, [])

    def test_a_drive_tells_what_the_run_of_its_turns_tells(self):
        draw = random.Random(29)
        for rule in small_rules():
            for most in (1, 5, 60):
                registers, turns = drawn_registers(draw, rule), drawn_turns(draw, rule, most)
                hand = Hand(lambda number, movers: turns[number])
                rows = drive(rule, registers, hand, most)
                self.assertEqual(rows, plain_run(rule, registers, turns[:len(rows)]))
                states = [rule.read(registers)] + [row[1] for row in rows]
                self.assertEqual(hand.asked, [(turn, rule.movers(states[turn])) for turn in range(len(rows))])
                self.assertTrue(len(rows) == most or rule.movers(states[-1]) == [])

    def test_lists_stay_and_are_the_askers_own(self):
        for rule in small_rules():
            registers = [3 * at - 4 for at in range(rule.size)]
            check_own(self, drive, rule, registers, lambda number, movers: movers[-1:] if number != 1 else [], 9)


class CalmAtTest(unittest.TestCase):
    def told(self, rule, registers, turns):
        return calm_at(rule, registers, run(rule, registers, turns))

    def test_calm_at_the_beginning(self):
        self.assertEqual(self.told(FarRule(line(3), 0), [0, 5, -2], []), 0)
        self.assertEqual(self.told(FarRule(line(3), 0), [GREAT, 1, 2], [[0], [1]]), 0)

    def test_behind_the_first_and_the_last_row(self):
        rule = FarRule(line(3), 0)
        self.assertEqual(self.told(rule, [0, 1, 3], [[2], [0], []]), 1)
        self.assertEqual(self.told(rule, [0, 1, 3], [[], [2], []]), 2)
        self.assertEqual(self.told(rule, [3, 3, 3], [[0], [1], [2]]), 3)

    def test_never(self):
        rule = FarRule(line(3), 0)
        self.assertIsNone(self.told(rule, [3, 3, 3], [[0], [1], [0]]))
        self.assertIsNone(self.told(rule, [3, 3, 3], [[]]))

    def test_without_rows(self):
        self.assertEqual(calm_at(FarRule(line(3), 0), [0, 1, 2], []), 0)
        self.assertIsNone(calm_at(FarRule(line(3), 0), [0, 1, 3], []))
        self.assertEqual(calm_at(PassRule(3, 4), [2, 2, -2], []), 0)

    def test_of_pass_calm_is_just_one_that_may(self):
        rule = PassRule(3, 4)
        self.assertEqual(self.told(rule, [5, 1, -3], [[0]]), 0)
        self.assertEqual(self.told(rule, [1, 3, 1], [[2, 0], [1]]), 1)
        self.assertEqual(self.told(rule, [1, 3, 1], [[], [0], [1], [2]]), 3)
        self.assertIsNone(self.told(rule, [1, 3, 1], [[], [1, 2, 0]]))

    def test_of_tables(self):
        copy_left, stay = [0, 0, 1, 1, 0, 0, 1, 1], [0, 0, 0, 0, 1, 1, 1, 1]
        self.assertEqual(self.told(TableRule(3, 2, "one", stay, copy_left), [1, 1, 0], [[2]]), 0)
        self.assertEqual(self.told(TableRule(3, 2, "none", stay, copy_left), [1, 1, 0], [[2]]), 1)
        self.assertIsNone(self.told(TableRule(3, 2, "one", stay, copy_left), [1, 1, 1], [[2]]))

    def test_of_drives(self):
        rule = CountRule([0, 0, 1])
        rows = drive(rule, [0, 0, 0, 0], lambda number, movers: movers, 300)
        self.assertEqual(calm_at(rule, [0, 0, 0, 0], rows), len(rows))
        self.assertEqual(len(rows), 3)

    def test_of_every_rule_by_the_words(self):
        draw = random.Random(30)
        for rule in small_rules():
            for length in (0, 1, 4, 20):
                registers, turns = drawn_registers(draw, rule), drawn_turns(draw, rule, length)
                rows = run(rule, registers, turns)
                calms = [rule.calm(rule.read(registers))] + [rule.calm(row[1]) for row in rows]
                told = calm_at(rule, registers, rows)
                self.assertEqual(told, calms.index(True) if True in calms else None)
                self.assertNotIsInstance(told, bool)

    def test_registers_of_another_length(self):
        for length in (0, 2, 4):
            with self.assertRaises(BadState):
                calm_at(FarRule(line(3), 0), [0] * length, [])

    def test_lists_stay(self):
        for rule in small_rules():
            registers = [at - 5 for at in range(rule.size)]
            check_own(self, calm_at, rule, registers, run(rule, registers, [[0], [], [rule.size - 1]]))


class FairTest(unittest.TestCase):
    def test_fewer_turns_than_asked_for(self):
        self.assertIs(fair(3, [[0], [0]], 3), True)
        self.assertIs(fair(3, [[]], 2), True)
        self.assertIs(fair(3, [[0], [1], [2]], GREAT), True)

    def test_just_so_many(self):
        self.assertIs(fair(3, [[0], [2], [1]], 3), True)
        self.assertIs(fair(3, [[0, 2], [1], []], 3), True)
        self.assertIs(fair(3, [[0], [1], [1, 0]], 3), False)

    def test_more(self):
        self.assertIs(fair(3, [[0], [1], [2], [0], [1]], 3), True)
        self.assertIs(fair(3, [[0], [1], [2], [1], [0]], 3), False)
        self.assertIs(fair(3, [[0], [1], [2], [1], [0]], 4), True)
        self.assertIs(fair(3, [[], [0], [1], [2], [0]], 3), False)
        self.assertIs(fair(3, [[0], [1], [2], [0], []], 3), False)

    def test_every_stretch_counts_not_only_those_side_by_side(self):
        self.assertIs(fair(2, [[0], [1], [1], [0]], 2), False)
        self.assertIs(fair(2, [[0], [1], [0], [1]], 2), True)

    def test_a_machine_never_named(self):
        for never in range(4):
            turns = [[at for at in range(4) if at != never]] * 6
            for within in range(1, 7):
                self.assertIs(fair(4, turns, within), False)
            self.assertIs(fair(4, turns, 7), True)

    def test_within_1(self):
        self.assertIs(fair(3, [[0, 1, 2], [2, 1, 0]], 1), True)
        self.assertIs(fair(3, [[0, 1, 2], [2, 0]], 1), False)
        self.assertIs(fair(3, [[2, 0], [0, 1, 2]], 1), False)
        self.assertIs(fair(3, [[]], 1), False)

    def test_no_turns(self):
        for size in (1, 2, 20):
            for within in (1, 2, 300, GREAT):
                self.assertIs(fair(size, [], within), True)

    def test_one_machine(self):
        self.assertIs(fair(1, [[0], [0]], 1), True)
        self.assertIs(fair(1, [[0], []], 1), False)
        self.assertIs(fair(1, [[], [0], [], [0], []], 2), True)
        self.assertIs(fair(1, [[0], [], [], [0]], 2), False)

    def test_a_machine_named_twice_in_a_turn(self):
        self.assertIs(fair(2, [[0, 0], [1]], 2), True)
        self.assertIs(fair(2, [[0, 0], [0]], 2), False)

    def test_every_list_of_turns_of_two_machines_by_the_words(self):
        for length in range(6):
            for turns in itertools.product([[], [0], [1], [1, 0]], repeat=length):
                for within in range(1, 7):
                    ought = True
                    for first in range(length):
                        if first + within <= length and {at for one in turns[first:first + within] for at in one} != {0, 1}:
                            ought = False
                    self.assertIs(fair(2, list(turns), within), ought, (turns, within))

    def test_lists_stay(self):
        check_own(self, fair, 2, [[0], [1], [0, 1]], 2)


if __name__ == "__main__":
    unittest.main()
