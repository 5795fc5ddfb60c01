"""The format in which a book is printed."""

from afterleaves.errors import BadFormat
from afterleaves.forms import is_within


class Format:
    """The width and height of pages, and whether pointers may say here, overleaf and facing."""

    def __init__(self, width, height, near=True):
        if not is_within(width, 20, 60):
            raise BadFormat("width")
        if not is_within(height, 2, 12):
            raise BadFormat("height")
        if not isinstance(near, bool):
            raise BadFormat("near")
        self.width = width
        self.height = height
        self.near = near

    def __eq__(self, other):
        return (isinstance(other, Format) and self.width == other.width and self.height == other.height
                and self.near == other.near)
