"""What each row of a machine does."""

from typegate.calling import CALLING
from typegate.keeping import KEEPING
from typegate.moving import MOVING


def obey(run, frame, row):
    """Do what a row says; return the index to which it leads, None for the next one, or AWAY."""
    word = row[0]
    if word in MOVING:
        rule = MOVING[word]
    else:
        rule = KEEPING[word] if word in KEEPING else CALLING[word]
    return rule(run, frame, row)
