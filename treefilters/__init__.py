"""Filters of ambiguity on the trees of a grammar; the calls are answered in treefilters.desk."""
