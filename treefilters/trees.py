"""Finds the passing tree of a given number in the order of trees."""

from treefilters.refusals import LargeTree

MOST_NODES = 500


def nodes_of_tree(chart, place, i, j, k):
    """Rule, from and to of each node of tree number k, one behind another; there must be so many trees."""
    told = []
    # A stack and not calls within calls: what is left to tell, the next tree last.
    left = [(place, i, j, k)]
    while left:
        if len(told) == 3 * MOST_NODES:
            raise LargeTree()
        subtree = left.pop()
        root = root_of_tree(chart, subtree)
        told.extend([root[0], subtree[1], subtree[2]])
        children = children_of_tree(chart, root[0], subtree[1], subtree[2], root[1])
        children.reverse()
        left.extend(children)
    return told


def root_of_tree(chart, subtree):
    """The root's rule, and the tree's number among the trees with this rule at the root."""
    i = subtree[1]
    j = subtree[2]
    k = subtree[3]
    members = chart.places.members[subtree[0]]
    at = 0
    while k >= chart.rule_trees[members[at]][i][j]:
        k = k - chart.rule_trees[members[at]][i][j]
        at = at + 1
    return (members[at], k)


def children_of_tree(chart, r, i, j, k):
    """For each child of tree number k of those with rule r at the root: its place, from, to, and its number."""
    children = []
    start = i
    for m, place in enumerate(chart.places.of_symbols[r]):
        end = start + 1
        if place is not None:
            rest = chart.rests[r][m][j]
            end = start
            while k >= chart.place_trees[place][start][end] * rest[end]:
                k = k - chart.place_trees[place][start][end] * rest[end]
                end = end + 1
            children.append((place, start, end, k // rest[end]))
            k = k % rest[end]
        start = end
    return children
