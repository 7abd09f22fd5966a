"""The bounds that the document names."""

ROUND = 6
KINDS = 4
SOURCES = 6
OLD = 20
SINCE = 10 ** 6
MANY = 9
WAYS = 8
PARTS = 3
WAIT = 6
READY = 26
FAR = 10 ** 15
LAST = 3 * 10 ** 15
ITEMS = 4
LATE = 60
LOST = 12
SPENT = 7
DEEDS = 40
