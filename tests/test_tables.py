import itertools
import random
import unittest

from calmring.errors import BadRule, NoMeasure
from calmring.rules import Rule
from calmring.tables import TableRule
from promises import GREAT, NINES, check_bad_turns, check_dues, check_lists, check_reach_all, check_reading, states

SHAPES = [(2, 2), (2, 3), (2, 4), (3, 2), (3, 3), (4, 2)]


def drawn_table(draw, span):
    return [draw.randrange(span) for entry in range(span ** 3)]


def drawn_rules(count):
    """(rule, word, firsts, others) with drawn tables."""
    draw = random.Random(31)
    found = []
    for size, span in SHAPES:
        for turn in range(count):
            word, firsts, others = draw.choice(["none", "one"]), drawn_table(draw, span), drawn_table(draw, span)
            found.append((TableRule(size, span, word, firsts, others), word, firsts, others))
    return found


def entries(span):
    """Every (own, left, right) in the order of a table."""
    return list(itertools.product(range(span), repeat=3))


class MakingTest(unittest.TestCase):
    def refused(self, size, span, word, firsts, others):
        kept = (list(firsts), list(others))
        with self.assertRaises(BadRule, msg=(size, span, word, len(firsts), len(others))):
            TableRule(size, span, word, firsts, others)
        self.assertEqual((firsts, others), kept)

    def test_sizes_2_to_8_and_spans_2_to_4(self):
        for size in range(2, 9):
            for span in range(2, 5):
                for word in ("none", "one"):
                    rule = TableRule(size, span, word, [0] * span ** 3, [span - 1] * span ** 3)
                    self.assertIsInstance(rule, Rule)
                    self.assertEqual((rule.size, rule.span), (size, span))
                    self.assertIs(rule.alone, False)
                    check_reading(self, rule)
                    check_bad_turns(self, rule)
                    check_reach_all(self, rule)

    def test_sizes_that_are_refused(self):
        for size in (1, 9, 10, 0, -1, -2, -8, 300, GREAT, NINES, -GREAT):
            for span in (2, 3, 4):
                self.refused(size, span, "none", [0] * span ** 3, [0] * span ** 3)

    def test_spans_that_are_refused(self):
        for span in (1, 5, 6, 0, -1, -2):
            self.refused(3, span, "one", [0] * abs(span ** 3), [0] * abs(span ** 3))
        for span in (300, GREAT, NINES, -GREAT):
            for length in (0, 1, 8, 27, 64):
                self.refused(3, span, "one", [0] * length, [0] * length)

    def test_words_that_are_refused(self):
        for word in ("", "None", "none ", " one", "ONE", "two", "many", "on", "nones", "n", "0", "1", "none one"):
            self.refused(3, 2, word, [0] * 8, [0] * 8)

    def test_tables_of_another_length(self):
        for span in (2, 3, 4):
            right = span ** 3
            for length in (right - 1, right + 1, 0, 1, span, span * span, 2 * right, 300):
                self.refused(3, span, "none", [0] * length, [0] * right)
                self.refused(3, span, "none", [0] * right, [0] * length)
                self.refused(3, span, "none", [0] * length, [0] * length)

    def test_entries_out_of_their_bounds(self):
        for span in (2, 3, 4):
            for place in (0, 1, span ** 3 // 2, span ** 3 - 2, span ** 3 - 1):
                for wrong in (span, span + 1, 9, GREAT, NINES, -1, -2, -span, -GREAT):
                    table = [0] * span ** 3
                    table[place] = wrong
                    self.refused(3, span, "none", table, [0] * span ** 3)
                    self.refused(3, span, "none", [0] * span ** 3, table)
                table = [0] * span ** 3
                table[place] = span - 1
                TableRule(3, span, "none", table, table)


class DueTest(unittest.TestCase):
    def test_each_entry_of_either_table(self):
        for span in (2, 3, 4):
            for entry, (own, left, right) in enumerate(entries(span)):
                firsts, others = [own_ for own_, a, b in entries(span)], [own_ for own_, a, b in entries(span)]
                new = (own + 1) % span
                firsts[entry] = new
                rule = TableRule(3, span, "none", firsts, others)
                self.assertEqual(rule.due([own, right, left], 0), new)
                self.assertEqual(rule.due([left, own, right], 1), own)
                self.assertEqual(rule.due([right, left, own], 2), own)
                rule = TableRule(3, span, "none", others, firsts)
                self.assertEqual(rule.due([own, right, left], 0), own)
                self.assertEqual(rule.due([left, own, right], 1), new)
                self.assertEqual(rule.due([right, left, own], 2), new)

    def test_by_hand(self):
        # Each entry of firsts tells the left cell, each of others the right one.
        lefts = [left for own, left, right in entries(3)]
        rights = [right for own, left, right in entries(3)]
        rule = TableRule(4, 3, "none", lefts, rights)
        check_dues(self, rule, [0, 1, 2, 1], [1, 2, 1, 0])
        check_dues(self, rule, [2, 2, 0, 0], [0, 0, 0, 2])
        check_dues(self, TableRule(8, 3, "none", lefts, rights), [0, 1, 2, 0, 1, 2, 0, 2], [2, 2, 0, 1, 2, 0, 2, 0])

    def test_two_machines_stand_at_both_sides_of_each_other(self):
        lefts = [left for own, left, right in entries(4)]
        rights = [right for own, left, right in entries(4)]
        for firsts, others in ((lefts, rights), (rights, lefts)):
            for cells in itertools.product(range(4), repeat=2):
                check_dues(self, TableRule(2, 4, "none", firsts, others), list(cells), [cells[1], cells[0]])
        marks = [0] * 8
        marks[1 * 4 + 0 * 2 + 0] = 1
        marks[0 * 4 + 1 * 2 + 1] = 1
        rule = TableRule(2, 2, "none", marks, [0] * 8)
        self.assertEqual([rule.due([own, other], 0) for own in (0, 1) for other in (0, 1)], [0, 1, 1, 0])

    def test_every_state_of_drawn_tables(self):
        for rule, word, firsts, others in drawn_rules(8):
            span, size = rule.span, rule.size
            for cells in states(rule):
                dues = []
                for at in range(size):
                    table = others if at else firsts
                    left, right = cells[at - 1], cells[at + 1] if at + 1 < size else cells[0]
                    dues.append(table[entries(span).index((cells[at], left, right))])
                check_dues(self, rule, cells, dues)


class CalmTest(unittest.TestCase):
    def test_by_each_word(self):
        seen = set()
        for rule, word, firsts, others in drawn_rules(8):
            for other_word, count in (("none", 0), ("one", 1)):
                worded = TableRule(rule.size, rule.span, other_word, firsts, others)
                for cells in states(rule):
                    movers = [at for at in range(rule.size) if rule.due(cells, at) != cells[at]]
                    self.assertIs(worded.calm(cells), len(movers) == count)
                    seen.add((other_word, len(movers)))
        for word in ("none", "one"):
            for count in (0, 1, 2, 3):
                self.assertIn((word, count), seen)


class NoMeasureTest(unittest.TestCase):
    def test_measure_most_and_soon(self):
        for word in ("none", "one"):
            rule = TableRule(3, 2, word, [0] * 8, [1] * 8)
            for cells in ([0, 0, 0], [1, 0, 1]):
                with self.assertRaises(NoMeasure):
                    rule.measure(cells)
            with self.assertRaises(NoMeasure):
                rule.most()
            for count in (0, 1, 300, GREAT):
                with self.assertRaises(NoMeasure):
                    rule.soon(count)


class ListsTest(unittest.TestCase):
    def test_tables_stay_and_may_change_behind_the_making(self):
        firsts, others = [0, 1] * 4, [1, 1, 0, 0] * 2
        rule = TableRule(3, 2, "none", firsts, others)
        self.assertEqual((firsts, others), ([0, 1] * 4, [1, 1, 0, 0] * 2))
        told = [[rule.due(cells, at) for at in range(3)] for cells in states(rule)]
        for place in range(8):
            firsts[place], others[place] = 1 - firsts[place], 7
        self.assertEqual([[rule.due(cells, at) for at in range(3)] for cells in states(rule)], told)
        firsts.clear()
        others.clear()
        self.assertEqual([[rule.due(cells, at) for at in range(3)] for cells in states(rule)], told)

    def test_one_list_as_both_tables(self):
        table = [1, 1, 1, 1, 0, 0, 0, 0]
        rule = TableRule(2, 2, "one", table, table)
        check_dues(self, rule, [0, 1], [1, 0])
        table[0] = 0
        check_dues(self, rule, [0, 0], [1, 1])

    def test_lists_stay_and_are_the_askers_own(self):
        for rule, word, firsts, others in drawn_rules(2):
            for cells in states(rule)[:6]:
                check_lists(self, rule, cells)


if __name__ == "__main__":
    unittest.main()
