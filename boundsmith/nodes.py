"""Nodes of a search: nets with a bound and a paper that shows it."""

from boundsmith.bounds import crowd_for
from boundsmith.nets import heads_by, longest_by, tails_by, way_to, with_arc
from boundsmith.parts import FIXED, MACHINES
from boundsmith.papers import pairs_of


class Node:
    """A net with a bound, None where it has no good plan at all, and a paper that shows it by the net's arcs."""

    def __init__(self, gaps, deep, begins, rests):
        self.gaps = gaps
        self.deep = deep
        self.begins = begins
        self.rests = rests
        self.bound = None
        self.paper = None
        # What it is split by: tasks that can't all run in one hour, and a node for each pair of them.
        self.tasks = ()
        self.within = []

    def show(self, bound, paper):
        """Take a paper and the bound that it shows."""
        self.bound = bound
        self.paper = paper


def late_fixed(book, begins):
    """The fixed tasks that can't begin when they have to."""
    return [task for task, begin in book[FIXED] if begins[task] > begin]


def bounds_of(book, worth, node):
    """A list of tuples (BOUND, PAPER) of the ways and the crowds with the greatest bounds."""
    bound, way = longest_by(book, node.gaps, worth, node.begins, node.rests)
    told = [(bound, ("way", tuple(way)))]
    for machine in book[MACHINES]:
        crowd = crowd_for(book, node.begins, node.rests, machine)
        if crowd is not None:
            told.append((crowd[0], ("crowd", tuple(crowd[1]))))
    return told


def node_of(book, worth, gaps, deep, known):
    """A node of a net, which does not go round, with the best of what shows a bound; known does already."""
    node = Node(gaps, deep, heads_by(book, gaps), tails_by(book, gaps, worth))
    late = late_fixed(book, node.begins)
    if late:
        node.show(None, ("fixed", tuple(way_to(book, gaps, node.begins, late[0]))))
        return node
    for bound, paper in known + bounds_of(book, worth, node):
        if node.bound is None or bound > node.bound:
            node.show(bound, paper)
    return node


def split_node(book, worth, node, tasks):
    """Split a node by tasks that can't all run in one hour."""
    node.tasks = tuple(tasks)
    for arc in pairs_of(node.tasks):
        # What shows a bound by fewer arcs shows it by more, too.
        known = [(node.bound, node.paper)]
        node.within.append(node_of(book, worth, with_arc(node.gaps, arc), node.deep + 1, known))


def paper_of_node(node):
    """The paper of a node, with those of the nodes that it is split into."""
    if not node.within:
        return node.paper
    return ("cases", node.tasks, tuple([paper_of_node(part) for part in node.within]))
