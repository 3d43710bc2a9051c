"""The bounds of what is handed in and told."""

KINDS = 6
RULES = 10
DOORS = 6
FAN = 4
TOLD = 40
RAISES = 6000
ROOMS = 300
DEEDS = 100
BATCH = 20
