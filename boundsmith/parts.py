"""Where the parts of a book stand, and those of a task."""

MACHINES = 0
GOODS = 1
TASKS = 2
WAITS = 3
FIXED = 4

NAME = 0
LENGTH = 1
MACHINE = 2
NEEDS = 3
FROM = 4
BY = 5
WEIGHT = 6
