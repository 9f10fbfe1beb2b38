"""What is asked of every rule alike, held against any rule that is handed in."""

import itertools
import random

from calmring.downward import CountRule, PaintRule
from calmring.errors import BadState, BadTurn, NoMeasure
from calmring.growing import GrowRule
from calmring.leasts import FarRule, LeadRule, LeastRule
from calmring.nets import Net, line, ring
from calmring.passing import PassRule
from calmring.rules import Rule
from calmring.tables import TableRule

GREAT = 10 ** 59
NINES = 10 ** 60 - 1


def star(size):
    return Net(size, [(0, at) for at in range(1, size)])


def whole(size):
    """The net with every way."""
    return Net(size, list(itertools.combinations(range(size), 2)))


def kite():
    """A ring of three with a tail, numbered so that ways lead up and down."""
    return Net(4, [(3, 1), (1, 0), (0, 3), (2, 3)])


def mixed():
    """Ten machines with many ways."""
    ways = [(9, 0), (0, 4), (4, 9), (4, 7), (7, 2), (2, 8), (8, 1), (1, 7), (2, 3), (3, 5), (5, 6), (8, 5)]
    return Net(10, ways)


def small_nets(greatest):
    """Nets of 1 to `greatest` machines, at most four."""
    nets = [line(1), line(2), line(3), ring(3), star(3), Net(3, [(2, 0), (1, 2)]), line(4), ring(4), star(4), kite(),
            whole(4)]
    return [net for net in nets if net.size <= greatest]


def states(rule):
    return [list(cells) for cells in itertools.product(range(rule.span), repeat=rule.size)]


def drawn_states(rule, count):
    draw = random.Random(5)
    return [[draw.randrange(rule.span) for at in range(rule.size)] for turn in range(count)]


def sets_of(things):
    """Every set of the things but the empty one, each as a rising list."""
    return [list(one) for count in range(1, len(things) + 1) for one in itertools.combinations(things, count)]


def turns_of(rule, cells):
    """What the hand can name so that somebody does something."""
    movers = rule.movers(cells)
    return [[at] for at in movers] if rule.alone else sets_of(movers)


def small_rules():
    """At least one rule of each kind, alone and not, with a measure and without."""
    copy_left = [0, 0, 1, 1, 0, 0, 1, 1]
    flip = [1, 1, 1, 1, 0, 0, 0, 0]
    return [
        Rule(3, 5, False), Rule(2, 3, True), PassRule(2, 2), PassRule(3, 4), PassRule(6, 7), PaintRule(line(1)),
        PaintRule(kite()), PaintRule(ring(6)), CountRule([]), CountRule([0, 0, 1, 1]),
        LeastRule(kite(), [None, 3, 0, None], 3, 2), FarRule(line(1), 0), FarRule(kite(), 2), FarRule(ring(5), 3),
        LeadRule(line(3), [2, 9, 0]), LeadRule(kite(), [4, 0, 1, 2]), GrowRule(line(2), 1), GrowRule(kite(), 3),
        TableRule(2, 2, "none", copy_left, copy_left), TableRule(3, 2, "one", flip, copy_left)]


def drawn_registers(draw, rule):
    """A state of whole numbers of up to sixty figures either way."""
    greatest = draw.choice([0, rule.span - 1, 2 * rule.span, NINES])
    return [draw.randint(-greatest, greatest) for at in range(rule.size)]


def drawn_turn(draw, rule):
    """Any turn that is not refused, in any order."""
    count = draw.randint(0, 1 if rule.alone else rule.size)
    return draw.sample(range(rule.size), count)


def drawn_turns(draw, rule, count):
    return [drawn_turn(draw, rule) for turn in range(count)]


def is_whole(number):
    return isinstance(number, int) and not isinstance(number, bool)


def check_falling(test, rule, cells):
    """Point 3 at one state: the measure is within its bounds, falls while it is wild, and calm stays calm."""
    measure, most = rule.measure(cells), rule.most()
    test.assertTrue(is_whole(measure) and is_whole(most), (cells, measure, most))
    test.assertTrue(0 <= measure <= most, (cells, measure, most))
    calm = rule.calm(cells)
    test.assertIsInstance(calm, bool)
    if not calm:
        test.assertNotEqual(rule.movers(cells), [], cells)
    for named in turns_of(rule, cells):
        behind = rule.turned(cells, named)
        test.assertNotEqual(behind, cells)
        if calm:
            test.assertIs(rule.calm(behind), True, (cells, named))
        else:
            test.assertLess(rule.measure(behind), measure, (cells, named))


def check_every_state(test, rule):
    for cells in states(rule):
        check_falling(test, rule, cells)


def check_dues(test, rule, cells, dues):
    """Points 6 and 7: dues, movers and turns, where `dues` are told by hand."""
    kept = list(cells)
    test.assertEqual([rule.due(cells, at) for at in range(rule.size)], dues, cells)
    movers = [at for at in range(rule.size) if dues[at] != cells[at]]
    test.assertEqual(rule.movers(cells), movers)
    for at in range(rule.size):
        behind = list(cells)
        behind[at] = dues[at]
        test.assertEqual(rule.turned(cells, [at]), behind)
    if not rule.alone:
        test.assertEqual(rule.turned(cells, list(range(rule.size))), dues)
    test.assertEqual(rule.turned(cells, []), cells)
    test.assertEqual(cells, kept)


def check_bad_turns(test, rule):
    """Point 7: what a turn is refused for."""
    cells = [0] * rule.size
    wrong = [[rule.size], [-1], [-rule.size], [rule.size + 1], [GREAT], [-GREAT], [0, 0], [rule.size - 1] * 2,
             [0, rule.size], [-1, 0]]
    if rule.alone and rule.size > 1:
        wrong += [[0, 1], [1, 0], list(range(rule.size))]
    for named in wrong:
        kept = list(named)
        with test.assertRaises(BadTurn, msg=named):
            rule.turned(cells, named)
        test.assertEqual((cells, named), ([0] * rule.size, kept))


def check_reading(test, rule):
    """Point 5: registers are read as their rests, and lists of another length are refused."""
    size, span = rule.size, rule.span
    for number in (0, 1, -1, span - 1, span, span + 1, -span, -span - 1, GREAT, -GREAT, NINES, -NINES):
        registers = [number + at for at in range(size)]
        kept = list(registers)
        test.assertEqual(rule.read(registers), [one - one // span * span for one in kept])
        test.assertEqual(registers, kept)
    for length in (0, size - 1, size + 1, 300):
        with test.assertRaises(BadState):
            rule.read([0] * length)


def check_own(test, tell, *handed):
    """Point 2 of one call: what is handed in stays, and what is told is the asker's own."""
    kept = copied(handed)
    first = tell(*handed)
    told = copied(first)
    test.assertEqual(handed, kept)
    spoil_lists(first)
    test.assertEqual(handed, kept)
    again = tell(*handed)
    test.assertEqual(again, told)
    spoil_lists(handed)
    test.assertEqual(again, told)
    test.assertEqual(tell(*kept), told)
    check_no_list_twice(test, again)


def check_no_list_twice(test, told):
    """No list that is told stands in two places of it."""
    lists = lists_in(told)
    test.assertEqual(len({id(one) for one in lists}), len(lists))


def lists_in(told):
    found = [told] if isinstance(told, list) else []
    if isinstance(told, (list, tuple)):
        for one in told:
            found += lists_in(one)
    return found


def copied(told):
    if isinstance(told, (list, tuple)):
        return type(told)(copied(one) for one in told)
    return told


def spoil_lists(told):
    if isinstance(told, (list, tuple)):
        for one in told:
            spoil_lists(one)
    if isinstance(told, list):
        told.append(77)
        told[0] = -5


def check_lists(test, rule, cells):
    """Point 2 for all methods that every rule has."""
    check_own(test, rule.read, [cell + rule.span for cell in cells])
    check_own(test, rule.movers, list(cells))
    check_own(test, rule.calm, list(cells))
    for named in turns_of(rule, cells) + [[]]:
        check_own(test, rule.turned, list(cells), named)
    for at in range(rule.size):
        check_own(test, rule.due, list(cells), at)
    for spoiled in ([], [0], [rule.size - 1, 0, 0]):
        check_own(test, rule.reach, spoiled)
    if has_measure(rule):
        check_own(test, rule.measure, list(cells))


def has_measure(rule):
    try:
        rule.most()
    except NoMeasure:
        return False
    return True


def check_reach_all(test, rule):
    """Point 9 where nothing else is told."""
    for spoiled in ([], [0], [rule.size - 1], [0, 0], list(reversed(range(rule.size)))):
        test.assertEqual(rule.reach(spoiled), list(range(rule.size)))


def check_reach_holds(test, rule):
    """Point 9 itself: behind faults nobody outside the reach ever has something to do ahead of calm."""
    calms = [cells for cells in states(rule) if rule.calm(cells)]
    for spoiled in [[]] + sets_of(list(range(rule.size))):
        reach = rule.reach(spoiled)
        for cells in calms:
            for faults in itertools.product(range(rule.span), repeat=len(spoiled)):
                faulty = list(cells)
                for at, number in zip(spoiled, faults):
                    faulty[at] = number
                check_movers_within(test, rule, faulty, reach)


def check_movers_within(test, rule, cells, reach):
    seen, waiting = {tuple(cells)}, [cells]
    while waiting:
        ahead = waiting.pop()
        if not rule.calm(ahead):
            test.assertLessEqual(set(rule.movers(ahead)), set(reach), (cells, ahead))
            for named in turns_of(rule, ahead):
                behind = rule.turned(ahead, named)
                if tuple(behind) not in seen:
                    seen.add(tuple(behind))
                    waiting.append(behind)
