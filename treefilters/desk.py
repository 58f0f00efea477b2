"""The desk: answers a list of calls on one object that holds a grammar, a text and filters."""

from treefilters.chart import Chart, first_ambiguous
from treefilters.counts import is_endless
from treefilters.grammars import LAST_BYTE, START, Grammar, grammar_of
from treefilters.places import Places
from treefilters.refined import told_places, told_refined
from treefilters.refusals import BadNodes, BadNumber, EndlessTrees, LongText
from treefilters.refusals import NoFilter, NoNonterminal, NoPiece, NoTree, Refusal
from treefilters.rows import Row
from treefilters.sieves import filters_of, first_broken, row_of_filters
from treefilters.trees import MOST_NODES, nodes_of_tree
from treefilters.trial import Trial
from treefilters.walk import Walk

LONGEST_TEXT = 24


class Desk:
    """The object that the calls are made on."""

    def __init__(self):
        self.grammar = Grammar(1, [])
        self.text = []
        self.filters = []
        self.drawn = None
        self.tried = None

    def hold(self, grammar, text, filters):
        self.grammar = grammar
        self.text = text
        self.tried = None
        self.hold_filters(filters)

    def hold_filters(self, filters):
        self.filters = filters
        self.drawn = None

    def chart(self):
        """The chart of what is held, drawn once for all calls that ask of the same."""
        if self.drawn is None:
            self.drawn = Chart(self.grammar, self.text, self.filters)
        return self.drawn

    def trial(self):
        """What filters are tried on one by one; it stays when others are held."""
        if self.tried is None:
            self.tried = Trial(self.grammar, self.text)
        return self.tried


def refuse_below_zero(row):
    if any([number < 0 for number in row]):
        raise BadNumber()


def refuse_piece(desk, a, i, j):
    """Refuses a nonterminal that the grammar doesn't have, and a piece that the text doesn't have."""
    if a < 0 or a >= desk.grammar.nonterminals:
        raise NoNonterminal()
    if i < 0 or j < i or j > len(desk.text):
        raise NoPiece()


def passing_trees(desk, a, i, j):
    """How many trees of a over the piece from i to j pass, as treefilters.counts tells numbers of trees."""
    refuse_piece(desk, a, i, j)
    return desk.chart().place_trees[a][i][j]


def answer_load(desk, calls):
    row = calls.take_list()
    refuse_below_zero(row)
    desk.hold(grammar_of(row), desk.text, [])
    return [0]


def answer_text(desk, calls):
    text = calls.take_list()
    if any([byte < 0 or byte > LAST_BYTE for byte in text]):
        raise BadNumber()
    if len(text) > LONGEST_TEXT:
        raise LongText()
    desk.hold(desk.grammar, text, desk.filters)
    return [0]


def answer_filter(desk, calls):
    row = calls.take_list()
    refuse_below_zero(row)
    desk.hold_filters(filters_of(row, desk.grammar))
    return [0]


def answer_reads(desk, calls):
    trees = desk.chart().place_trees[START][0][len(desk.text)]
    return [0, 1 if trees > 0 else 0]


def answer_count(desk, calls):
    a = calls.take()
    i = calls.take()
    j = calls.take()
    trees = passing_trees(desk, a, i, j)
    if is_endless(trees):
        return [1]
    return [0, trees]


def answer_tree(desk, calls):
    a = calls.take()
    i = calls.take()
    j = calls.take()
    k = calls.take()
    trees = passing_trees(desk, a, i, j)
    if is_endless(trees):
        raise EndlessTrees()
    if k < 0 or k >= trees:
        raise NoTree()
    nodes = nodes_of_tree(desk.chart(), a, i, j, k)
    return [0, len(nodes) // 3] + nodes


def answer_passes(desk, calls):
    a = calls.take()
    i = calls.take()
    j = calls.take()
    nodes = calls.take_list()
    refuse_piece(desk, a, i, j)
    refuse_below_zero(nodes)
    if len(nodes) % 3 != 0 or len(nodes) > 3 * MOST_NODES:
        raise BadNodes()
    walk = Walk(desk.grammar, desk.text, a, i, j)
    if not walk.is_tree(nodes):
        return [0, 0]
    broken = first_broken(desk.filters, walk, desk.text)
    return [0, 1] if broken is None else [0, 2, broken]


def answer_places(desk, calls):
    return [0] + told_places(Places(desk.grammar, desk.filters))


def answer_refined(desk, calls):
    return [0] + told_refined(desk.grammar, Places(desk.grammar, desk.filters))


def answer_idle(desk, calls):
    f = calls.take()
    if f < 0 or f >= len(desk.filters):
        raise NoFilter()
    return [0, 1 if desk.trial().is_idle(desk.filters[f]) else 0]


def answer_ambiguous(desk, calls):
    found = first_ambiguous(desk.chart(), desk.grammar.nonterminals)
    return [0] if found is None else [1] + found


def answer_filters(desk, calls):
    return [0] + row_of_filters(desk.filters)


# In the order of the calls' numbers.
ANSWERERS = (
    answer_load,
    answer_text,
    answer_filter,
    answer_reads,
    answer_count,
    answer_tree,
    answer_passes,
    answer_places,
    answer_refined,
    answer_idle,
    answer_ambiguous,
    answer_filters,
)


def answer(desk, calls):
    answerer = ANSWERERS[calls.take()]
    try:
        return answerer(desk, calls)
    except Refusal as refusal:
        return [refusal.number]


def answers(calls):
    """The answers to calls on a new object, each with how many numbers it has before it."""
    desk = Desk()
    row = Row(calls)
    told = []
    while not row.ended():
        numbers = answer(desk, row)
        told.append(len(numbers))
        told.extend(numbers)
    return told
