"""The constants of the program."""

SIZE = 3
SHELF = 8
# How many lines a chart has at most that is laid straight, or put together.
LINES = 200
