"""Letters that are two listed words put together, and where letters break at a line's end."""

from partedwordsdesk.listing import number_of
from partedwordsdesk.parting import parted_gaps


def is_listed(words, letters):
    """Whether these are the letters of a listed word."""
    return number_of(words, letters) < len(words)


def joints(words, letters):
    """The gaps where all letters before are those of a listed word, and so are all behind."""
    return [
        gap for gap in range(1, len(letters))
        if is_listed(words, letters[:gap]) and is_listed(words, letters[gap:])
    ]


def parted_as_two(listing, letters, gap):
    """The gaps at which letters with a joint at this gap are parted as two words."""
    front = parted_gaps(listing, letters[:gap])
    back = parted_gaps(listing, letters[gap:])
    return front + [gap] + [gap + offset for offset in back]


def breaking_gaps(listing, letters, places):
    """The gaps parted where the letters before and a sign behind them have places enough on the line."""
    return [gap for gap in parted_gaps(listing, letters) if gap <= places - 1]
