"""The search: a paper that is made node by node, and the plans that are met on the way."""

from heapq import heappop, heappush

from boundsmith.clashes import NEVER, clash_at, clashes_of
from boundsmith.lists import plan_by
from boundsmith.nets import steps
from boundsmith.nodes import node_of, paper_of_node, split_node
from boundsmith.papers import MOST_PAPERS, MOST_WITHIN
from boundsmith.parts import BY, LENGTH, TASKS
from boundsmith.plans import worth_of
from boundsmith.stretches import stretch_by

# At so many of the nodes that are split a plan is tried by the row of their heads.
MOST_TRIED = 300


class Search:
    """A search for plans of less than a limit, None for any, and for a paper that shows that there are none."""

    def __init__(self, book, worth, most, limit):
        self.book = book
        self.worth = worth
        self.limit = limit
        self.plan = None
        self.value = None
        self.most = most
        self.cases = 0
        self.parts = 1
        self.clashes = clashes_of(book)
        self.root = node_of(book, worth, steps(book, []), 0, [])
        self.waiting = []
        self.waited = 0
        # The bounds of the nodes that could not be split any more.
        self.stuck = []

    def take(self, plan):
        """Take a plan of less than the limit; from then on its worth is the limit."""
        value = None if plan is None else worth_of(self.book, plan, self.worth)
        if value is not None and (self.limit is None or value < self.limit):
            self.plan = plan
            self.value = value
            self.limit = value

    def wait(self, node):
        """Let a node wait for its turn: the least bound first, of like ones the deepest."""
        if node.bound is not None:
            heappush(self.waiting, (node.bound, -node.deep, self.waited, node))
            self.waited += 1

    def is_closed(self, node):
        """Whether the node's bound shows that there is no plan of less than the limit."""
        return node.bound is None or (self.limit is not None and node.bound >= self.limit)

    def is_stretched(self, node, bound):
        """Whether a stretch shows the bound, which then is the node's."""
        found = stretch_by(self.book, node.gaps, self.worth, bound, node.begins)
        if found is not None:
            node.show(bound, ("stretch",) + found)
        return found is not None

    def raise_bound(self, node):
        """Raise the node's bound as far as stretches show it, to the limit at the most."""
        if self.limit is None:
            self.is_stretched(node, None)
        elif self.is_stretched(node, node.bound + 1):
            # A stretch that shows a bound shows each lesser one, too.
            most = self.limit
            while node.bound < most:
                middle = (node.bound + most + 1) // 2
                if not self.is_stretched(node, middle):
                    most = middle - 1

    def has_room(self, node, tasks):
        """Whether cases of such tasks are allowed in the place of the node."""
        many = self.parts + len(tasks) * (len(tasks) - 1)
        return self.cases < self.most and node.deep + 1 < MOST_WITHIN and many <= MOST_PAPERS

    def part_by(self, node, tasks):
        """Split a node by tasks that can't all run in one hour, and try the row of its heads."""
        split_node(self.book, self.worth, node, tasks)
        self.cases += 1
        self.parts += len(node.within)
        for part in node.within:
            self.wait(part)
        if self.cases <= MOST_TRIED:
            self.take(plan_by(self.book, row_by(node.begins)))

    def look_into(self, node):
        """Find a plan in the net of a node that is not closed, or split it."""
        tasks = clash_at(self.book, self.clashes, node)
        if tasks is None:
            self.take(tuple(node.begins))
        elif self.has_room(node, tasks):
            self.part_by(node, tasks)
        else:
            self.stuck.append(node.bound)

    def visit(self, node):
        """Close a node, or let it wait again by a greater bound, or look into it."""
        if self.is_closed(node):
            return
        known = node.bound
        self.raise_bound(node)
        if self.is_closed(node):
            return
        if node.bound > known:
            self.wait(node)
        else:
            self.look_into(node)

    def made_paper(self):
        """The paper as it has been made."""
        return paper_of_node(self.root)


def row_by(hours):
    """A row of all tasks by an hour for each, of like ones by number."""
    return [task for _, task in sorted([(hour, task) for task, hour in enumerate(hours)])]


def urgencies_of(book, node):
    """Some lists of an hour for each task: the lesser it is, the sooner the task should begin."""
    tasks = list(enumerate(book[TASKS]))
    rests = [-NEVER if rest is None else rest for rest in node.rests]
    return [
        list(node.begins),
        [NEVER if row[BY] is None else row[BY] for _, row in tasks],
        [-row[LENGTH] - rests[task] for task, row in tasks],
        [node.begins[task] - rests[task] for task, _ in tasks],
        [0 for _ in tasks],
    ]


def try_lists(search):
    """Try the plans of some rows of all tasks."""
    for hours in urgencies_of(search.book, search.root):
        search.take(plan_by(search.book, row_by(hours)))


def try_nodes(search, is_one_enough):
    """Go through the nodes to the end or, if it is enough, to one plan of less than the limit."""
    search.wait(search.root)
    while search.waiting and not (is_one_enough and search.plan is not None):
        search.visit(heappop(search.waiting)[3])
