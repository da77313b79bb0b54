"""The numbers that bound what the package takes and returns."""

MAX_PLACES = 24
MAX_TABLE = 6
MAX_RIDER = 99
MAX_SIZED = 10
MAX_TERMS = 400
MAX_DEEP = 12
MAX_TIMES = 10 ** 30
MAX_STEPS = 5000
MAX_LENGTH = (10 ** 60) ** 5
MAX_NAMES = 6
BATCH = 8
MAX_EDITS = 40
