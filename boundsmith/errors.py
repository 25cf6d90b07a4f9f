"""The refusals, each straight under PlanError."""

from boundsmith.copies import copy_of


class PlanError(ValueError):
    """Any refusal."""


class BadBook(PlanError):
    """A book that is not let by; what is the word for the reason."""

    def __init__(self, what):
        super().__init__(f"the book is not let by: {what}")
        self.what = copy_of(what)


class BadText(PlanError):
    """A text that cannot be read; line is the number of its first bad row, 0 of what is no text."""

    def __init__(self, line):
        super().__init__(f"the text cannot be read at row {line}")
        self.line = copy_of(line)


class NoPlan(PlanError):
    """There is no good plan at all; paper shows it."""

    def __init__(self, paper):
        super().__init__("there is no good plan")
        self.paper = copy_of(paper)


class BadArcs(PlanError):
    """What is no list of arcs."""


class BadPlan(PlanError):
    """What is no plan."""


class BadRows(PlanError):
    """What are no rows."""


class BadWorth(PlanError):
    """What is no worth, or none that can be asked for."""


class BadTasks(PlanError):
    """What are no tasks of the wanted form, or no machine."""


class BadPaper(PlanError):
    """What is no paper that shows its bound."""


class BadMost(PlanError):
    """What is no number of cases."""


class NoDeed(PlanError):
    """There is nothing to undo, to do again or to drop."""


class BadDeed(PlanError):
    """A deed that cannot be."""


class BadLine(PlanError):
    """A line that cannot be understood."""
