"""A fixed sequence of whole numbers that have no simple relations to one another."""

START = 20011
FACTOR = 48271
PRIME = 2147483647


class Picks:
    """Whole numbers from -spread to spread without 0, by the powers of a number modulo a prime."""

    def __init__(self, attempt, spread):
        self.spread = spread
        self.rest = START + attempt

    def step(self):
        """The next number."""
        self.rest = self.rest * FACTOR % PRIME
        size = self.rest // 2 % self.spread + 1
        return size if self.rest & 1 else -size
