"""Texts: rows of blocks, their numbers, and where their pointers lead."""

from afterleaves.blocks import is_pointer, kept_block
from afterleaves.errors import (
    Backward, BadBlock, BadOrder, BadText, Lacking, TooMany, Twice, Unfit, Unknown)
from afterleaves.forms import is_tuple

MOST_BLOCKS = 24
MOST_POINTERS = 12
LISTS = ("contents", "index")
SIGNS = {"head": ".", "para": "p", "fig": "f"}


class Text:
    """A row of blocks that may point into each other."""

    def __init__(self, blocks):
        self.blocks = _judged_blocks(blocks)
        self.numbers = _block_numbers(self.blocks)
        self._spots = {block[1]: k for k, block in enumerate(self.blocks)}
        self._pointers = _judged_pointers(self.blocks)
        self._targets = {(k, item): self._judged_targets(k, item) for k, item in self._pointers}

    def __contains__(self, name):
        return isinstance(name, str) and name in self._spots

    def __getitem__(self, name):
        return self.blocks[self.spot(name)]

    def __len__(self):
        return len(self.blocks)

    def __iter__(self):
        return iter(self.blocks)

    def __eq__(self, other):
        return isinstance(other, Text) and self.blocks == other.blocks

    def spot(self, name):
        """The index of the block with this name."""
        if name not in self:
            raise Unknown(name)
        return self._spots[name]

    def pointers(self):
        """The pairs of block and item of all pointers, in order."""
        return self._pointers

    def targets(self, k, item):
        """The indexes of the blocks to which the pointer leads."""
        if not 0 <= k < len(self.blocks):
            raise Unknown(k)
        if (k, item) not in self._targets:
            raise Unknown(item)
        return self._targets[(k, item)]

    def _judged_targets(self, k, item):
        pointer = self.blocks[k][2][item]
        if pointer[0] == "next":
            return (_following(self.blocks, k, item),)
        spots = tuple([self._fit_spot(name) for name in pointer[1:]])
        if spots[0] > spots[-1]:
            raise Backward(k, item)
        return spots

    def _fit_spot(self, name):
        spot = self.spot(name)
        if self.blocks[spot][0] in LISTS:
            raise Unfit(name)
        return spot


def _judged_blocks(blocks):
    """The blocks as tuples; the errors that are due before pointers are looked at."""
    if not is_tuple(blocks) or len(blocks) == 0:
        raise BadText()
    if len(blocks) > MOST_BLOCKS:
        raise TooMany("block")
    kept = [kept_block(block) for block in blocks]
    if None in kept:
        raise BadBlock(kept.index(None))
    _judge_names(kept)
    _judge_order(kept)
    return tuple(kept)


def _judge_names(blocks):
    names = [block[1] for block in blocks]
    for k, name in enumerate(names):
        if name in names[:k]:
            raise Twice(name)


def _judge_order(blocks):
    barred = {"contents": LISTS, "index": ("index",)}
    for k, block in enumerate(blocks):
        ahead = [earlier[0] for earlier in blocks[:k]]
        if any([kind in ahead for kind in barred.get(block[0], LISTS)]):
            raise BadOrder(k)


def _judged_pointers(blocks):
    """The pairs of block and item of all pointers; TooMany if there are too many."""
    pointers = [(k, item) for k, block in enumerate(blocks) if block[0] == "para"
                for item, thing in enumerate(block[2]) if is_pointer(thing)]
    if len(pointers) > MOST_POINTERS:
        raise TooMany("pointer")
    return tuple(pointers)


def _following(blocks, k, item):
    """The index of the block to which a `next` leads."""
    kind = blocks[k][2][item][1]
    for spot in range(k + 1, len(blocks)):
        if blocks[spot][0] == kind:
            return spot
    raise Lacking(k, item)


def _block_numbers(blocks):
    """The number of each block, a string."""
    numbers = []
    chapter = 0
    counts = {}
    for block in blocks:
        kind = block[0]
        if kind == "head" and block[2] == 1:
            chapter = chapter + 1
            counts = {}
            numbers.append(str(chapter))
        elif kind in SIGNS:
            counts[kind] = counts.get(kind, 0) + 1
            numbers.append(f"{chapter}{SIGNS[kind]}{counts[kind]}")
        else:
            numbers.append("")
    return tuple(numbers)
