"""What places can say behind lists of corrections that are filed anyhow, and how that is healed."""

from afterleaves.errata import MOST_CORRECTIONS, Errata
from afterleaves.errors import TooMany, Unlike


def can_say(lists, page, row, word, token):
    """All tokens to which any row of the lists turns this token at a place, itself among them."""
    reached = [token]
    # Tokens that are found are looked at in their turn, until nothing new comes of any.
    done = 0
    while done < len(reached):
        for errata in lists:
            new = errata.turned(page, row, word, reached[done])
            if new not in reached:
                reached.append(new)
        done = done + 1
    return tuple(sorted(reached))


def healing_list(lists, old, new):
    """The least list that makes the book old, behind any row of the lists, say what the book new says."""
    _judge_prints(old, new)
    corrections = []
    for leaf in old:
        for side in (0, 1):
            page = (leaf.label, side)
            for row, (said, wanted) in enumerate(zip(leaf.said_rows(side), new[leaf.label].said_rows(side))):
                for word, (token, goal) in enumerate(zip(said, wanted)):
                    corrections.extend([(page, row, word, wrong, goal)
                                        for wrong in can_say(lists, page, row, word, token) if wrong != goal])
    if len(corrections) > MOST_CORRECTIONS:
        raise TooMany("correction")
    return Errata(corrections)


def _judge_prints(old, new):
    """Unlike for the least label at which one book has not the print of the other one."""
    for label in sorted(set([leaf.label for book in (old, new) for leaf in book])):
        if label not in old or label not in new or not old[label].same_print(new[label]):
            raise Unlike(label)
