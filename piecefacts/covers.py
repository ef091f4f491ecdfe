"""Smallest covers: which pieces of two tables to read, so that of each two that may meet one is read.

An edge is a pair (number of a piece of one table, number of a piece of the other) of pieces that may meet.
"""


def most_pairs(edges):
    """Return as many of the edges as there can be with no piece twice, ascending."""
    partners = {}
    for left in sorted({edge[0] for edge in edges}):
        find_partner(left, edges, partners, {})
    return tuple(sorted([(left, right) for right, left in partners.items()]))


def find_partner(left, edges, partners, tried):
    """Find a right piece for a left one, if need be by finding others for those that have one; tell whether it did."""
    for right in [edge[1] for edge in edges if edge[0] == left]:
        if right not in tried:
            tried[right] = True
            if right not in partners or find_partner(partners[right], edges, partners, tried):
                partners[right] = left
                return True
    return False


def least_cover(edges):
    """Return the least of all smallest sets of pieces (side, number) that have one of the two pieces of each edge.

    A smallest cover has as many members as there are most pairs. So a piece belongs to one if without it there are
    fewer pairs; and the least cover has the least such piece, and then the least cover of what is left.
    """
    cover = []
    uncovered = edges
    for place in sorted(set([(0, edge[0]) for edge in edges] + [(1, edge[1]) for edge in edges])):
        side, number = place
        others = [edge for edge in uncovered if edge[side] != number]
        if len(most_pairs(others)) < len(most_pairs(uncovered)):
            cover.append(place)
            uncovered = others
    return tuple(cover)
