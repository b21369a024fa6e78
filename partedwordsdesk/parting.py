"""How patterns part letters, and how that is held against a listed word."""

GREATEST_MARGIN = 5


def fits_at(pattern, letters, place):
    """Whether a pattern fits in these letters at this place."""
    end = place + len(pattern.letters)
    if pattern.first and place > 0:
        return False
    if pattern.last and end < len(letters):
        return False
    return letters[place:end] == pattern.letters


def fitting_places(pattern, letters):
    """All places where a pattern fits in these letters."""
    # most patterns stand nowhere in most words: slim, which asks very often, is much quicker so
    if pattern.letters not in letters:
        return []
    return [place for place in range(len(letters)) if fits_at(pattern, letters, place)]


def fitting_patterns(patterns, letters):
    """The numbers of the patterns that fit in these letters somewhere."""
    return [number for number, pattern in enumerate(patterns) if len(fitting_places(pattern, letters)) > 0]


def levels(patterns, letters):
    """The level at each gap of these letters, those before the first and behind the last too."""
    found = [0] * (len(letters) + 1)
    for pattern in patterns:
        for place in fitting_places(pattern, letters):
            for offset, digit in enumerate(pattern.digits):
                found[place + offset] = max(found[place + offset], digit)
    return found


def greatest_level(patterns, letters):
    """The greatest level at any gap between two of these letters."""
    return max(levels(patterns, letters)[1:-1])


def odd_gaps(patterns, letters):
    """The gaps between two of these letters where the level is odd."""
    found = levels(patterns, letters)
    return [gap for gap in range(1, len(letters)) if found[gap] % 2 == 1]


def within(gaps, size, left, right):
    """Those of the gaps of so many letters that are within the margins."""
    return [gap for gap in gaps if gap >= left and size - gap >= right]


def parted_gaps(listing, letters):
    """The gaps at which a list parts these letters."""
    odd = odd_gaps(listing.patterns, letters)
    return within(odd, len(letters), listing.left, listing.right)


def held_against(word, odd, left, right):
    """A word's hits, faults and misses with these margins, if its level is odd at just these gaps."""
    parted = within(odd, len(word.letters), left, right)
    allowed = within(word.gaps, len(word.letters), left, right)
    hits = len([gap for gap in parted if gap in allowed])
    return (hits, len(parted) - hits, len(allowed) - hits)


def wrongs(words, odds, left, right):
    """For each word, how many faults and misses it has with these margins; odds: its gaps of odd level."""
    found = []
    for word, odd in zip(words, odds):
        counts = held_against(word, odd, left, right)
        found.append(counts[1] + counts[2])
    return found


def tried_margins(listing):
    """The first best margins and how many faults and misses they have; then all margins' exact words."""
    # levels know no margins, so they are told once for all margins
    odds = [odd_gaps(listing.patterns, word.letters) for word in listing.words]
    best = []
    exact = []
    for left in range(GREATEST_MARGIN + 1):
        for right in range(GREATEST_MARGIN + 1):
            found = wrongs(listing.words, odds, left, right)
            if best == [] or sum(found) < best[2]:
                best = [left, right, sum(found)]
            exact.append(found.count(0))
    return best + exact
