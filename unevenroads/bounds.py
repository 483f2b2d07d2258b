"""The bounds of webs, searches, benches and logs."""

MAX_PLACES = 24
MAX_ROADS = 40
MAX_LOAD = 9
MAX_SEEN = 2000
MAX_DRAWS = 12
MAX_MEAN = 40
MAX_GAME = 300
MAX_NAMES = 8
BATCH = 12
MAX_EDITS = 40
