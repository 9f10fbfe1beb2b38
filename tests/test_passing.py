import itertools
import random
import unittest

from calmring.errors import BadRule
from calmring.passing import PassRule
from calmring.rules import Rule
from promises import (
    GREAT, NINES, check_bad_turns, check_dues, check_every_state, check_falling, check_lists, check_reach_all,
    check_reading, sets_of, states)

SMALL = [(2, 2), (2, 3), (2, 5), (3, 3), (3, 4), (3, 6), (4, 4), (4, 5), (5, 5)]


def dues_by_hand(cells, span):
    first = cells[0] if cells[0] != cells[-1] else cells[0] + 1
    return [0 if first == span else first] + cells[:-1]


def measure_by_hand(cells, span):
    """Point 12, word by word."""
    size = len(cells)
    heavy = sum(size - at for at in range(1, size) if cells[at] != cells[at - 1])
    start = next((at for at in range(size) if cells[at] != cells[0]), size)
    if all(cells[at] != cells[0] for at in range(start, size)):
        return heavy
    fresh = [steps for steps in range(1, size + 1) if all(one != (cells[0] + steps) % span for one in cells[1:])]
    return size * min(fresh) + heavy


class MakingTest(unittest.TestCase):
    def test_sizes_2_to_20(self):
        for size in range(2, 21):
            for span in (size, size + 1, 21, 300, GREAT, NINES):
                rule = PassRule(size, span)
                self.assertIsInstance(rule, Rule)
                self.assertEqual((rule.size, rule.span), (size, span))
                self.assertIs(rule.alone, False)

    def test_sizes_that_are_refused(self):
        for size in (1, 21, 22, 300, 0, -1, -2, -20, GREAT, -GREAT, NINES):
            for span in (1, 2, 20, 21, 22, 300, GREAT, NINES, 0, -1):
                with self.subTest(size=size, span=span):
                    with self.assertRaises(BadRule):
                        PassRule(size, span)

    def test_spans_that_are_refused(self):
        for size in (2, 3, 4, 10, 19, 20):
            for span in (size - 1, 1, 0, -1, -size, -GREAT):
                with self.subTest(size=size, span=span):
                    with self.assertRaises(BadRule):
                        PassRule(size, span)

    def test_reading(self):
        for size, span in SMALL + [(20, 20), (20, NINES)]:
            check_reading(self, PassRule(size, span))


class DueTest(unittest.TestCase):
    def test_by_hand(self):
        rule = PassRule(4, 5)
        check_dues(self, rule, [2, 2, 2, 2], [3, 2, 2, 2])
        check_dues(self, rule, [2, 0, 3, 2], [3, 2, 0, 3])
        check_dues(self, rule, [2, 0, 3, 1], [2, 2, 0, 3])
        check_dues(self, rule, [4, 4, 4, 0], [4, 4, 4, 4])

    def test_machine_0_at_the_end_of_the_span(self):
        check_dues(self, PassRule(3, 5), [4, 1, 4], [0, 4, 1])
        check_dues(self, PassRule(3, 5), [4, 4, 4], [0, 4, 4])
        check_dues(self, PassRule(3, 5), [4, 4, 0], [4, 4, 4])
        check_dues(self, PassRule(2, 2), [1, 1], [0, 1])
        check_dues(self, PassRule(2, NINES), [NINES - 1, NINES - 1], [0, NINES - 1])
        check_dues(self, PassRule(2, NINES), [NINES - 2, NINES - 2], [NINES - 1, NINES - 2])

    def test_every_state_of_small_rings(self):
        for size, span in SMALL:
            rule = PassRule(size, span)
            for cells in states(rule):
                check_dues(self, rule, cells, dues_by_hand(cells, span))

    def test_twenty_machines(self):
        rule = PassRule(20, 20)
        cells = [0] + list(range(19))
        check_dues(self, rule, cells, [0, 0] + list(range(18)))
        self.assertEqual(rule.movers(cells), list(range(2, 20)))


class TurnTest(unittest.TestCase):
    def test_any_set_in_any_order_by_the_cells_ahead(self):
        rule = PassRule(4, 4)
        for cells in states(rule):
            dues = dues_by_hand(cells, 4)
            for named in sets_of([0, 1, 2, 3]):
                behind = [dues[at] if at in named else cells[at] for at in range(4)]
                for order in itertools.permutations(named):
                    self.assertEqual(rule.turned(cells, list(order)), behind)

    def test_all_named(self):
        rule = PassRule(5, 9)
        self.assertEqual(rule.turned([8, 3, 1, 1, 8], [4, 3, 2, 1, 0]), [0, 8, 3, 1, 1])
        self.assertEqual(rule.turned([8, 3, 1, 1, 7], [0, 1, 2, 3, 4]), [8, 8, 3, 1, 1])

    def test_bad_turns(self):
        for size, span in ((2, 2), (4, 5), (20, 30)):
            check_bad_turns(self, PassRule(size, span))


class CalmTest(unittest.TestCase):
    def test_calm_where_just_one_may(self):
        for size, span in SMALL:
            rule = PassRule(size, span)
            for cells in states(rule):
                dues = dues_by_hand(cells, span)
                able = [at for at in range(size) if dues[at] != cells[at]]
                self.assertIs(rule.calm(cells), len(able) == 1)

    def test_by_hand(self):
        rule = PassRule(4, 4)
        for cells in ([1, 1, 1, 1], [1, 1, 1, 0], [1, 0, 0, 0], [3, 3, 2, 2], [0, 2, 2, 2]):
            self.assertIs(rule.calm(cells), True)
        for cells in ([1, 0, 0, 1], [1, 0, 2, 2], [3, 2, 1, 0], [1, 1, 0, 1]):
            self.assertIs(rule.calm(cells), False)

    def test_the_right_goes_round_once_whole(self):
        for size, span in SMALL + [(20, 20), (20, NINES)]:
            rule = PassRule(size, span)
            for number in (0, 1, span - 1):
                cells = [number] * size
                for holder in range(size):
                    self.assertEqual(rule.movers(cells), [holder])
                    self.assertIs(rule.calm(cells), True)
                    cells = rule.turned(cells, list(range(size)))
                self.assertEqual(cells, [(number + 1) % span] * size)
                self.assertEqual(rule.movers(cells), [0])

    def test_from_every_calm_state_the_next_one_has_it(self):
        for size, span in SMALL:
            rule = PassRule(size, span)
            for cells in states(rule):
                if rule.calm(cells):
                    holder = rule.movers(cells)[0]
                    self.assertEqual(rule.movers(rule.turned(cells, [holder])), [(holder + 1) % size])


class MeasureTest(unittest.TestCase):
    def test_by_hand_with_j_0(self):
        rule = PassRule(4, 5)
        self.assertEqual(rule.measure([2, 2, 2, 2]), 0)
        self.assertEqual(rule.measure([2, 2, 2, 1]), 1)
        self.assertEqual(rule.measure([2, 1, 1, 1]), 3)
        self.assertEqual(rule.measure([2, 2, 0, 1]), 2 + 1)
        self.assertEqual(rule.measure([2, 3, 4, 0]), 3 + 2 + 1)

    def test_by_hand_with_j_from_1_on(self):
        rule = PassRule(4, 5)
        self.assertEqual(rule.measure([2, 1, 1, 2]), 4 * 1 + 3 + 1)
        self.assertEqual(rule.measure([2, 2, 1, 2]), 4 * 1 + 2 + 1)
        self.assertEqual(rule.measure([2, 3, 3, 2]), 4 * 2 + 3 + 1)
        self.assertEqual(rule.measure([1, 2, 3, 1]), 4 * 3 + 3 + 2 + 1)
        self.assertEqual(rule.measure([1, 3, 2, 1]), 4 * 3 + 3 + 2 + 1)
        self.assertEqual(rule.measure([1, 3, 1, 3]), 4 * 1 + 3 + 2 + 1)

    def test_j_over_the_end_of_the_span(self):
        rule = PassRule(4, 5)
        self.assertEqual(rule.measure([4, 0, 1, 4]), 4 * 3 + 3 + 2 + 1)
        self.assertEqual(rule.measure([4, 0, 0, 4]), 4 * 2 + 3 + 1)
        self.assertEqual(rule.measure([3, 4, 0, 3]), 4 * 3 + 3 + 2 + 1)
        self.assertEqual(rule.measure([4, 3, 3, 4]), 4 * 1 + 3 + 1)
        wide = PassRule(3, NINES)
        self.assertEqual(wide.measure([NINES - 1, 0, NINES - 1]), 3 * 2 + 2 + 1)
        self.assertEqual(wide.measure([NINES - 1, 1, NINES - 1]), 3 * 1 + 2 + 1)

    def test_every_state_of_small_rings_by_the_words(self):
        for size, span in SMALL:
            rule = PassRule(size, span)
            for cells in states(rule):
                self.assertEqual(rule.measure(cells), measure_by_hand(cells, span), cells)

    def test_most(self):
        for size, most in ((2, 3), (3, 9), (4, 18), (5, 30), (10, 135), (19, 513), (20, 570)):
            for span in (size, size + 1, NINES):
                self.assertEqual(PassRule(size, span).most(), most)

    def test_most_is_come_to(self):
        for size in range(3, 21):
            rule = PassRule(size, size + 1)
            cells = [0] + list(range(1, size - 1)) + [0]
            self.assertEqual(rule.measure(cells), rule.most())

    def test_every_state_of_small_rings_falls(self):
        for size, span in SMALL:
            check_every_state(self, PassRule(size, span))

    def test_drawn_states_of_great_rings_fall(self):
        draw = random.Random(7)
        for size, span in ((8, 8), (8, 11), (8, NINES)):
            rule = PassRule(size, span)
            for turn in range(40):
                check_falling(self, rule, [draw.randrange(size) * (span // size) for at in range(size)])

    def test_great_rings_come_to_rest_within_the_measure(self):
        draw = random.Random(11)
        for size, span in ((20, 20), (20, 23), (19, NINES)):
            rule = PassRule(size, span)
            for turn in range(10):
                cells = rule.read([draw.randrange(-NINES, NINES) for at in range(size)])
                while not rule.calm(cells):
                    ahead = rule.measure(cells)
                    movers = rule.movers(cells)
                    cells = rule.turned(cells, draw.sample(movers, draw.randint(1, len(movers))))
                    self.assertLess(rule.measure(cells), ahead)


class SoonTest(unittest.TestCase):
    def test_by_hand(self):
        rule = PassRule(20, 20)
        self.assertEqual(rule.soon(0), 2 * 20 + 19)
        self.assertEqual(rule.soon(1), 3 * 20 + 3 * 19)
        self.assertEqual(rule.soon(2), 4 * 20 + 5 * 19)
        self.assertEqual(rule.soon(8), 10 * 20 + 17 * 19)
        self.assertEqual(rule.soon(9), 570)
        self.assertEqual(rule.soon(10), 570)
        self.assertEqual(rule.soon(300), 570)
        self.assertEqual(rule.soon(GREAT), 570)

    def test_the_lesser_one(self):
        for size in range(2, 21):
            rule = PassRule(size, size + 3)
            for count in list(range(12)) + [GREAT, NINES]:
                faulty = 2 * size + size - 1 + count * (size + 2 * (size - 1))
                self.assertEqual(rule.soon(count), faulty if faulty < rule.most() else rule.most())

    def test_never_less_than_the_measure_behind_so_many_faults(self):
        for size, span in SMALL:
            rule = PassRule(size, span)
            behind = [cells for cells in states(rule) if rule.calm(cells)]
            for count in range(size + 1):
                for cells in behind:
                    self.assertLessEqual(rule.measure(cells), rule.soon(count))
                behind = faulted(behind, span)

    def test_never_less_behind_drawn_faults_in_great_rings(self):
        draw = random.Random(3)
        for size, span in ((12, 12), (20, 20), (20, 25)):
            rule = PassRule(size, span)
            for turn in range(300):
                number, place = draw.randrange(span), draw.randrange(size)
                other = draw.randrange(span)
                cells = [number] * (place + 1) + [other] * (size - 1 - place)
                self.assertIs(rule.calm(cells), True)
                for count in range(6):
                    self.assertLessEqual(rule.measure(cells), rule.soon(count))
                    cells[draw.randrange(size)] = (number + draw.randrange(4)) % span


def faulted(cells_list, span):
    """Every state that one fault more can make."""
    found = {}
    for cells in cells_list:
        for at in range(len(cells)):
            for number in range(span):
                behind = list(cells)
                behind[at] = number
                found[tuple(behind)] = True
    return [list(cells) for cells in found]


class ReachTest(unittest.TestCase):
    def test_all_machines(self):
        for size in (2, 3, 20):
            check_reach_all(self, PassRule(size, 20))


class ListsTest(unittest.TestCase):
    def test_lists_stay_and_are_the_askers_own(self):
        rule = PassRule(4, 5)
        for cells in ([2, 2, 2, 2], [4, 0, 1, 4], [3, 1, 0, 2], [2, 2, 1, 1]):
            check_lists(self, rule, cells)
        self.assertEqual((rule.size, rule.span, rule.alone), (4, 5, False))


if __name__ == "__main__":
    unittest.main()
