"""What rows are by themselves: whether they hold, and how they are made."""

OPPOSITES = {"+": "-", "-": "+", ".": "."}


def row_holds(row, ranking):
    """Whether a row holds for a ranking, both being right."""
    for rule in ranking:
        if row[rule] != ".":
            return row[rule] == "+"
    return True


def all_hold(rows, ranking):
    """Whether all these rows hold for a ranking."""
    return all([row_holds(row, ranking) for row in rows])


def turned(row):
    """The opposite of a row."""
    return "".join([OPPOSITES[sign] for sign in row])


def row_of_pair(one, other, many):
    """The row, of so many signs, that says that one rule is above another one."""
    signs = {one: "+", other: "-"}
    return "".join([signs.get(rule, ".") for rule in range(many)])


def sign_of(mark, rival):
    """The sign of a rule by which one has so many marks, and its rival so many."""
    if mark < rival:
        return "+"
    return "-" if mark > rival else "."


def row_between(mine, theirs):
    """The row of one candidate against another one, by the marks of both."""
    return "".join([sign_of(mark, rival) for mark, rival in zip(mine, theirs)])


def fused_sign(signs):
    """The sign of a fusion for a rule: the strongest of the signs of the rows."""
    if "-" in signs:
        return "-"
    if "+" in signs:
        return "+"
    return "."


def fused(rows, many):
    """The fusion of these rows, each with so many signs."""
    return "".join([fused_sign([row[rule] for row in rows]) for rule in range(many)])
