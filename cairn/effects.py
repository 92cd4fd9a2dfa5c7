"""Effects: what somebody else carries out for a process."""


def sends(letters):
    """The effects that send letters, which are pairs (receiver, letter)."""
    return [("send", to, letter) for to, letter in letters]
