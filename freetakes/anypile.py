"""What a position is made of."""


class AnyPile:
    """The base of all piles.

    It has a file of its own, since piles make positions and positions ask whether their values are piles.
    """
