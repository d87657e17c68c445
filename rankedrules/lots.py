"""Lots: ascending tuples of indexes."""

from rankedrules.heads import rules_of


def all_lots(many):
    """All lots of indexes of so many things, ordered by length, then as tuples."""
    lots = [rules_of(head, many) for head in range(1 << many)]
    return sorted(lots, key=lambda lot: (len(lot), lot))


def has_part(lot, others):
    """Whether one of the other lots is a part of this one."""
    return any([all([index in lot for index in other]) for other in others])
