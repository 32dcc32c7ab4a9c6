"""The words of a program: its names and its integers."""

KEPT = (
    "cores", "slice", "lock", "lent", "queue", "cell", "part", "task", "later", "work", "if", "else", "end", "while",
    "repeat", "unlock", "put", "take", "sleep", "start", "wait", "say",
)
LETTERS = "abcdefghijklmnopqrstuvwxyz"
DIGITS = "0123456789"
LONGEST_NAME = 8


def is_name(word):
    """Whether a string is a name."""
    return 1 <= len(word) <= LONGEST_NAME and word not in KEPT and _made_of(word, LETTERS)


def read_whole(word, low, high):
    """The integer from low to high that a string writes; None if it writes none."""
    # The length comes first: int() refuses a word of thousands of digits.
    if not 1 <= len(word) <= len(str(high)) or not _made_of(word, DIGITS):
        return None
    if word[0] == "0" and len(word) > 1:
        return None
    number = int(word)
    return number if low <= number <= high else None


def _made_of(word, signs):
    return all([sign in signs for sign in word])
