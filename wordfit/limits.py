"""The limits of Wordfit. README.md says what each of them limits."""

LENGTH = 12
WORDS = 200
PREFIXES = 600
STATES = 600
POINTS = 60
CHOICES = 8
NODES = 2000
TOLD = 4
COMPARED = 20
FAULTS = 8
LESSON = 300
