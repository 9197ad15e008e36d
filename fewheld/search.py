"""All that comes of a beginning, letter by letter, with the rows by which it comes; the least right number."""


def ways_from(letters, begin, leads):
    """A shortest row for each place that comes of the beginning, in the sequence in which they are found.

    leads(place, letter) are the places to which the place leads by the letter.
    """
    ways = {begin: ""}
    found = [begin]
    at = 0
    while at < len(found):
        place = found[at]
        for letter in letters:
            for behind in leads(place, letter):
                if behind not in ways:
                    ways[behind] = ways[place] + letter
                    found.append(behind)
        at = at + 1
    return ways


def found_along(letters, begin, onward):
    """The tuples (first row, place) of all places that come of the beginning, in the order of the rows.

    onward(place, letter) is the one place to which the place leads by the letter.
    """
    # Where each letter leads to one place alone, the places are found in the
    # order of their rows: those of the first rows are asked first.
    ways = ways_from(letters, begin, lambda place, letter: [onward(place, letter)])
    return [(row, place) for place, row in ways.items()]


def moves_along(letters, begin, onward):
    """For each tuple (place, letter) of what comes of the beginning: the place to which the letter leads."""
    found = found_along(letters, begin, onward)
    return {(place, letter): onward(place, letter) for _, place in found for letter in letters}


def first_row(found, is_right):
    """The row of the first of these tuples (row, place) whose place is right, or None."""
    for row, place in found:
        if is_right(place):
            return row
    return None


def least_right(most, is_right):
    """The least number that is right; the most is right, and so is each number up to it behind a right one."""
    low = 0
    high = most
    while low < high:
        middle = (low + high) // 2
        if is_right(middle):
            high = middle
        else:
            low = middle + 1
    return low
