"""Runs: hands that give turns, told ahead or by a look at the movers, and what comes of them."""


def run(rule, registers, turns):
    cells = rule.read(registers)
    rows = []
    for named in turns:
        rows.append(row_of(rule, cells, named))
        cells = rows[-1][1]
    return rows


def drive(rule, registers, hand, most):
    cells = rule.read(registers)
    rows = []
    while len(rows) < most and len(rule.movers(cells)) > 0:
        # Asked anew for the hand, so that it can do with its list as it likes.
        named = hand(len(rows), rule.movers(cells))
        rows.append(row_of(rule, cells, named))
        cells = rows[-1][1]
    return rows


def calm_at(rule, registers, rows):
    states = [rule.read(registers)] + [row[1] for row in rows]
    for count, cells in enumerate(states):
        if rule.calm(cells):
            return count
    return None


def fair(size, turns, within):
    # With fewer turns than `within` there is nothing to walk, and so nothing that is not fair.
    return all([names_all(size, turns[at:at + within]) for at in range(len(turns) - within + 1)])


def row_of(rule, cells, named):
    behind = rule.turned(cells, named)
    done = [at for at in rule.movers(cells) if at in named]
    return (done, behind)


def names_all(size, turns):
    return all([any([at in named for named in turns]) for at in range(size)])
