"""What values of any kind are: whole numbers, hands, figures."""

FIGURES = ("0", "1", "2", "3", "4", "5")


def is_whole(value):
    """Return whether value is an integer; True and False are none."""
    return isinstance(value, int) and not isinstance(value, bool)


def is_hand(value, many):
    """Return whether value is one of so many hands."""
    return is_whole(value) and 0 <= value < many


def read_figure(text):
    """Return the number of which the string text is the figure, None if it is no figure from 0 to 5."""
    if text in FIGURES:
        return FIGURES.index(text)
    return None
