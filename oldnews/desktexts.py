"""The texts of a desk: its report, and the line of its hold."""

from oldnews.reading import check

HEAD = "house    lamp held  off   on free"


def report_text(names, state, hold, counts):
    """Returns the report on the state, whose lamp fates are the counts."""
    digits = dict(hold)
    lines = [HEAD]
    for house, name in enumerate(names):
        columns = (state[house], digits.get(house, "-")) + counts[house]
        lines.append(f"{name:<8}" + "".join([f" {column:>4}" for column in columns]))
    # Each fate is counted once for each house.
    lines.append(f"fates {sum(counts[0])}")
    return "\n".join(lines)


def hold_line(names, hold):
    """Returns the last line of the text of a desk."""
    return " ".join(["holds"] + [f"{names[house]}={digit}" for house, digit in hold])


def read_hold(names, line, words):
    """Returns the hold from the words of the last line, which has this number. Raises BadText."""
    check(words[0] == "holds", line, 0)
    hold = []
    last = -1
    for place in range(1, len(words)):
        name, _, figure = words[place].partition("=")
        house = names.index(name) if name in names else -1
        check(house > last and figure in ("0", "1"), line, place)
        hold.append((house, int(figure)))
        last = house
    return hold
