"""Dresses that can be read: no text is the dressed text of dressings of two different texts."""

from cleandress.base.signs import is_text
from cleandress.dress.dresses import Dress, can_be_dressed
from cleandress.errors import InvalidDress
from cleandress.judge.pairs import BOTH, FIRST, SECOND, PairRules
from cleandress.judge.papers import are_right_rows, rows_of
from cleandress.judge.search import search_in
from cleandress.walk.graphs import graph_of
from cleandress.walk.standings import MAX_STANDINGS


def is_readable(dress):
    """Whether no text is the dressed text of dressings of two different texts."""
    return search_in(pair_graph(dress)).path is None


def readable_paper(dress):
    """A paper that shows that a dress is readable, or two different texts that can be dressed alike.

    Both texts together have as few signs as possible.
    """
    graph = pair_graph(dress)
    search = search_in(graph)
    if search.path is None:
        return "readable", rows_of(graph, search)
    text, other, dressed = [taken_by(search.path, part) for part in (FIRST, SECOND, BOTH)]
    return "mixed", text, other, dressed


def taken_by(path, part):
    """The signs that one of both walks reads, or that both write."""
    return "".join([taken for _, due, taken, _ in path if due == part])


def is_readable_paper(dress, value):
    """Whether the value is a right paper of a dress, of one kind or the other."""
    check_dress(dress)
    if not isinstance(value, tuple):
        return False
    if len(value) == 2 and value[0] == "readable":
        return are_right_rows(PairRules(dress), value[1])
    return len(value) == 4 and value[0] == "mixed" and are_mixed(dress, value[1], value[2], value[3])


def are_mixed(dress, text, other, dressed):
    """Whether two different texts, of any length, have dressings with one dressed text."""
    if not is_text(text) or not is_text(other) or not is_text(dressed) or text == other:
        return False
    return can_be_dressed(dress, text, dressed) and can_be_dressed(dress, other, dressed)


def pair_graph(dress):
    """The graph of the pair standings of a dress."""
    check_dress(dress)
    return graph_of(PairRules(dress), MAX_STANDINGS)


def check_dress(value):
    """Raises an error if the value is no dress."""
    if not isinstance(value, Dress):
        raise InvalidDress("a dress is needed")
