"""Which rules may stand at the head of the rankings that fit, and in how many ways.

A head is the rules at the top of a ranking, in any order: an integer with a bit
for each of them. Which rule may come next depends on the head alone, not on its
order, so that 256 heads stand for all 40320 rankings of eight rules.
"""


def head_of(rules):
    """The head of these rules, each given once."""
    return sum([1 << rule for rule in rules])


def rules_of(head, many):
    """The rules of a head, of so many rules, ascending."""
    return tuple([rule for rule in range(many) if head & (1 << rule)])


def sides(row):
    """The rules by which a row is better, and those by which it is worse, as heads."""
    better = head_of([rule for rule, sign in enumerate(row) if sign == "+"])
    worse = head_of([rule for rule, sign in enumerate(row) if sign == "-"])
    return better, worse


def rules_behind(head, told, many):
    """The rules that may come right behind a head, `told` being the sides of all rows."""
    taken = head
    for better, worse in told:
        if not better & head:
            taken |= worse
    return [rule for rule in range(many) if not taken & (1 << rule)]


def steps(rows, many):
    """For each head the rules that may come right behind it."""
    told = [sides(row) for row in rows]
    return [rules_behind(head, told, many) for head in range(1 << many)]


def openings(behind):
    """For each head in how many orders its rules may come; `behind` is made by `steps`."""
    ways = [1] + [0] * (len(behind) - 1)
    for head, rules in enumerate(behind):
        for rule in rules:
            ways[head | (1 << rule)] += ways[head]
    return ways


def endings(behind):
    """For each head in how many orders the other rules may follow it."""
    ways = [1] * len(behind)
    for head in reversed(range(len(behind) - 1)):
        ways[head] = sum([ways[head | (1 << rule)] for rule in behind[head]])
    return ways


def count_fitting(rows, many):
    """How many rankings of so many rules there are for which all rows hold."""
    return endings(steps(rows, many))[0]


def heads_above(rows, many):
    """For each rule all heads that stand right above it in rankings that fit."""
    behind = steps(rows, many)
    before, after = openings(behind), endings(behind)
    return [
        [
            head for head, rules in enumerate(behind)
            if rule in rules and before[head] and after[head | (1 << rule)]
        ]
        for rule in range(many)
    ]
