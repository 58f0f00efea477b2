"""The desk: answers a list of calls on one object that holds a grammar, a text and filters."""

from treefilters.chart import Chart
from treefilters.counts import is_endless
from treefilters.grammars import LAST_BYTE, Grammar, grammar_of
from treefilters.refusals import BadNumber, EndlessTrees, LongText, NoNonterminal, NoPiece, NoTree, Refusal
from treefilters.rows import Row
from treefilters.sieves import filters_of
from treefilters.trees import nodes_of_tree

LONGEST_TEXT = 24
START = 0


class Desk:
    """The object that the calls are made on."""

    def __init__(self):
        self.grammar = Grammar(1, [])
        self.text = []
        self.filters = []
        self.drawn = None

    def hold(self, grammar, text, filters):
        self.grammar = grammar
        self.text = text
        self.filters = filters
        self.drawn = None

    def chart(self):
        """The chart of what is held, drawn once for all calls that ask of the same."""
        if self.drawn is None:
            self.drawn = Chart(self.grammar, self.text, self.filters)
        return self.drawn


def refuse_below_zero(row):
    if any([number < 0 for number in row]):
        raise BadNumber()


def passing_trees(desk, a, i, j):
    """How many trees of a over the piece from i to j pass, as treefilters.counts tells numbers of trees."""
    if a < 0 or a >= desk.grammar.nonterminals:
        raise NoNonterminal()
    if i < 0 or j < i or j > len(desk.text):
        raise NoPiece()
    return desk.chart().place_trees[a][i][j]


def answer_load(desk, calls):
    row = calls.take_list()
    refuse_below_zero(row)
    desk.hold(grammar_of(row), desk.text, [])
    return [0]


def answer_text(desk, calls):
    text = calls.take_list()
    if any([byte < 0 or byte > LAST_BYTE for byte in text]):
        raise BadNumber()
    if len(text) > LONGEST_TEXT:
        raise LongText()
    desk.hold(desk.grammar, text, desk.filters)
    return [0]


def answer_filter(desk, calls):
    row = calls.take_list()
    refuse_below_zero(row)
    desk.hold(desk.grammar, desk.text, filters_of(row, desk.grammar))
    return [0]


def answer_reads(desk, calls):
    trees = desk.chart().place_trees[START][0][len(desk.text)]
    return [0, 1 if trees > 0 else 0]


def answer_count(desk, calls):
    a = calls.take()
    i = calls.take()
    j = calls.take()
    trees = passing_trees(desk, a, i, j)
    if is_endless(trees):
        return [1]
    return [0, trees]


def answer_tree(desk, calls):
    a = calls.take()
    i = calls.take()
    j = calls.take()
    k = calls.take()
    trees = passing_trees(desk, a, i, j)
    if is_endless(trees):
        raise EndlessTrees()
    if k < 0 or k >= trees:
        raise NoTree()
    nodes = nodes_of_tree(desk.chart(), a, i, j, k)
    return [0, len(nodes) // 3] + nodes


# In the order of the calls' numbers.
ANSWERERS = (
    answer_load,
    answer_text,
    answer_filter,
    answer_reads,
    answer_count,
    answer_tree,
)


def answer(desk, calls):
    answerer = ANSWERERS[calls.take()]
    try:
        return answerer(desk, calls)
    except Refusal as refusal:
        return [refusal.number]


def answers(calls):
    """The answers to calls on a new object, each with how many numbers it has before it."""
    desk = Desk()
    row = Row(calls)
    told = []
    while not row.ended():
        numbers = answer(desk, row)
        told.append(len(numbers))
        told.extend(numbers)
    return told
