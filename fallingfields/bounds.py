"""How large books, records, rows, pieces and the edits of a desk may be."""

MAX_SIZE = 10 ** 30
MAX_KINDS = 6
MAX_MANY = 10 ** 30
MAX_ROW = 100
MAX_PIECES = 20
MAX_STATES = 256
MAX_EDITS = 40
