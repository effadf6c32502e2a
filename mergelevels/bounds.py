"""The limits that the other modules share."""

ITEMS = 12
LEVEL = 10 ** 12
GRADES = 60
BATCH = 20
