"""What the words book, front and web ask for in claims and commands."""

from wakesayings.books import Book
from wakesayings.fronts import Front
from wakesayings.webs import Web


def is_entry(value):
    """Whether any value is a Book, a Front or a Web."""
    return isinstance(value, (Book, Front, Web))


def is_of_shape(shape, value):
    """Whether any value is what the word book, front or web asks for."""
    if shape == "book":
        return isinstance(value, Book)
    if shape == "front":
        return isinstance(value, Front)
    return isinstance(value, Web)
