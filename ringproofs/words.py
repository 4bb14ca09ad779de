"""The constants of the program."""

SIZE = 3
SHELF = 8
