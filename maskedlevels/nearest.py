"""Things that are far off, taken one by one, the nearest first."""


class Nearest:
    """Things with distances; the one that is taken is none farther than any other one."""

    def __init__(self):
        self._things = {}
        self._least = 0

    def is_filled(self):
        """Whether there is a thing to be taken."""
        return len(self._things) > 0

    def put(self, far, thing):
        """Puts a thing at its distance."""
        if not self._things or far < self._least:
            self._least = far
        if far not in self._things:
            self._things[far] = []
        self._things[far].append(thing)

    def take(self):
        """Takes a nearest thing away: a tuple (distance, thing)."""
        far = self._least
        thing = self._things[far].pop()
        if not self._things[far]:
            del self._things[far]
            # There are few unlike distances at a time, so looking through them costs little.
            if self._things:
                self._least = min(self._things, key=int)
        return (far, thing)
