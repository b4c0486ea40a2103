"""The two sides."""

SIDES = ("left", "right")


def other_side(side):
    """The side against which a side plays."""
    return "right" if side == "left" else "left"
