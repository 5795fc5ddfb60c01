"""Setting tokens in lines at the least cost."""

LEAST_WIDTH = 20


def token_width(token):
    """The width of a token: m and w are two wide, all else is one wide."""
    return len(token) + token.count("m") + token.count("w")


def row_width(row):
    """The width of a row: of its tokens and of the blanks between them."""
    # A blank is one wide, as most signs are, so that a row is as wide as one token of its signs.
    return token_width(row)


def set_lines(tokens, width):
    """The rows into which the tokens are cut."""
    ends = row_ends([token_width(token) for token in tokens], width)
    rows = []
    first = 0
    while first < len(tokens):
        rows.append(" ".join(list(tokens[first:ends[first]])))
        first = ends[first]
    return tuple(rows)


def row_ends(widths, width):
    """For each token the index behind the row that begins with it, were it the first token of all."""
    costs = [0] * len(widths)
    ends = [len(widths)] * len(widths)
    fill_ends(widths, width, costs, ends, (0, len(widths)))
    return ends


def fill_ends(widths, width, costs, ends, span):
    """Notes for each token of a span what it costs to set the rows from it on, and where its row ends.

    For the tokens behind the span this is told already.
    """
    count = len(widths)
    for first in reversed(range(span[0], span[1])):
        best = None
        used = -1
        for last in range(first, count):
            used = used + 1 + widths[last]
            if used > width:
                break
            cost = 0 if last == count - 1 else (width - used) ** 2 + costs[last + 1]
            # Of rows that are equally good the longest one is looked for, and it comes last.
            if best is None or cost <= best:
                best = cost
                ends[first] = last + 1
        costs[first] = best


def line_cost(rows, width):
    """The sum of the costs of rows; the last one costs nothing."""
    return sum([(width - row_width(row)) ** 2 for row in rows[:-1]])


def width_changes(tokens, most):
    """The least width, and each further one up to the most at which the rows change."""
    least = max([LEAST_WIDTH] + [token_width(token) for token in tokens])
    changes = [least]
    rows = set_lines(tokens, least)
    for width in range(least + 1, most + 1):
        wider = set_lines(tokens, width)
        if wider != rows:
            changes.append(width)
        rows = wider
    return tuple(changes)
