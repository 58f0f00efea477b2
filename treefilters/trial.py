"""Tries filters one by one, each by itself, on all trees of the start over a whole text."""

from treefilters.chart import Chart
from treefilters.counts import is_endless
from treefilters.grammars import START
from treefilters.reach import Reach
from treefilters.sieves import is_broken


class Trial:
    """A grammar and a text without filters, and what was found of the filters tried on them."""

    def __init__(self, grammar, text):
        self.grammar = grammar
        self.text = text
        free_chart = Chart(grammar, text, [])
        self.endless = self.has_endless_trees(free_chart)
        self.reach = Reach(free_chart, START, 0, len(text))
        self.found = {}

    def has_endless_trees(self, chart):
        return is_endless(chart.place_trees[START][0][len(self.text)])

    def is_idle(self, sieve):
        if sieve not in self.found:
            self.found[sieve] = self.finds_idle(sieve)
        return self.found[sieve]

    def finds_idle(self, sieve):
        """Compares without counting: numbers of trees may be too great to be told exactly."""
        if not is_broken(sieve, self.reach, self.text):
            return True
        return self.endless and self.has_endless_trees(Chart(self.grammar, self.text, [sieve]))
