"""The least row that a search can find, and why no lesser one is there."""


def below(sets, row, choice):
    """The sets alike a row ahead of a choice, less there and free behind it; None if nothing less is in the set."""
    less = sets[choice] & ((1 << row[choice]) - 1)
    if less == 0:
        return None
    return [1 << value for value in row[:choice]] + [less] + sets[choice + 1:]


def lowered(engine, sets, tags, row, many):
    """(ROW, BARS): the least row of sets by its first so many choices, beginning with some row.

    BARS are (CHOICE, STEP) with a step whose sum is broken by what is alike the row ahead of the choice and less
    there.
    """
    bars = []
    for choice in range(many):
        # what is found here has the least value of the choice, so it is asked at most once more
        less = below(sets, row, choice)
        while less is not None:
            engine.hopes = [1 << value for value in row]
            found = engine.run(less, tags, choice)
            if found[0] == "proof":
                bars.append((choice, found[1]))
                less = None
            else:
                row = found[1]
                less = below(sets, row, choice)
    return (row, bars)
