"""The limits of the program. Each is a part of the behaviour, not a tuning."""

MAX_LETTERS = 4
MAX_NAME = 12
MAX_READ = 4000
MAX_WRITTEN = 400
MAX_STATES = 64
MAX_ENTRIES = 400
MAX_ACCEPTOR = 256
MAX_PAIRS = 1600
MAX_STEPS = 4000
MAX_LAGS = 600
MAX_TIMES = 50
