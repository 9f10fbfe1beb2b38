"""The looker: looks a rule with few states through, state by state."""

from calmring.errors import BadTurn, TooGreat

MOST_STATES = 256
MOST_AT_ONCE = 4


def number_of(rule, cells):
    number = 0
    for cell in cells:
        number = number * rule.span + cell
    return number


def cells_of(rule, number):
    cells = []
    left = number
    for at in range(rule.size):
        cells.append(left % rule.span)
        left = left // rule.span
    return list(reversed(cells))


def nexts(rule, cells, many=False):
    refuse_many(rule, many)
    movers = rule.movers(cells)
    turns = sets_of(movers) if many else [[at] for at in movers]
    return [(named, rule.turned(cells, named)) for named in turns]


def look(rule, many=False):
    refuse_many(rule, many)
    refuse_great(rule, many)
    states = [cells_of(rule, number) for number in range(states_of(rule))]
    calms = [rule.calm(cells) for cells in states]
    ways = [nexts(rule, cells, many) for cells in states]
    found = leaving(rule, calms, ways)
    if found is None:
        found = stuck(rule, calms, ways)
    if found is None:
        found = round_or_ranks(rule, calms, ways)
    return found


def slowest(rule, ranks, cells, many=False):
    refuse_many(rule, many)
    way = [list(cells)]
    while ranks[number_of(rule, way[-1])] > 0:
        rank = ranks[number_of(rule, way[-1])] - 1
        behind = [pair[1] for pair in nexts(rule, way[-1], many)]
        way.append([other for other in behind if ranks[number_of(rule, other)] == rank][0])
    return way


def refuse_many(rule, many):
    if many and rule.alone:
        raise BadTurn("a rule that is alone gets one machine at a turn")


def refuse_great(rule, many):
    if states_of(rule) > MOST_STATES:
        raise TooGreat("the rule has too many states")
    if many and rule.size > MOST_AT_ONCE:
        raise TooGreat("the rule has too many machines for many at once")


def states_of(rule):
    """The number of states; of a rule with more than MOST_STATES some number above that."""
    count = 1
    for at in range(rule.size):
        count = count * rule.span
        if count > MOST_STATES:
            break
    return count


def sets_of(movers):
    """Every set of movers but the empty one, in the order of their numbers."""
    sets = [[]]
    for at in movers:
        # This mover's bit is worth as many as there are sets so far, so those with it follow in the same order.
        sets = sets + [named + [at] for named in sets]
    return sets[1:]


def leaving(rule, calms, ways):
    for number, pairs in enumerate(ways):
        for named, behind in pairs:
            if calms[number] and not calms[number_of(rule, behind)]:
                return ("leaves", cells_of(rule, number), named)
    return None


def stuck(rule, calms, ways):
    for number, pairs in enumerate(ways):
        if not calms[number] and len(pairs) == 0:
            return ("stuck", cells_of(rule, number))
    return None


def round_or_ranks(rule, calms, ways):
    follows = [[number_of(rule, pair[1]) for pair in pairs] for pairs in ways]
    ranks = ranks_found(calms, follows)
    if None in ranks:
        return ("round", [cells_of(rule, number) for number in round_in(ranks, follows)])
    return ("calm", ranks)


def ranks_found(calms, follows):
    """The rank of each state; None where a way from it may go on for ever."""
    ranks = [0 if calm else None for calm in calms]
    grown = True
    while grown:
        grown = False
        for number, behind in enumerate(follows):
            if ranks[number] is None and None not in [ranks[other] for other in behind]:
                ranks[number] = 1 + max([ranks[other] for other in behind])
                grown = True
    return ranks


def round_in(ranks, follows):
    # A state without a rank has a next without one (else it had one), so this walk comes back to itself.
    way = [ranks.index(None)]
    while way.count(way[-1]) == 1:
        way.append([other for other in follows[way[-1]] if ranks[other] is None][0])
    return way[way.index(way[-1]):]
