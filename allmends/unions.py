"""What several fates or answers use together (points 44 and 51)."""

PARTS = 3


class Union:
    """The union of some `uses`."""

    def __init__(self):
        self._items = {}

    def include(self, uses):
        """Adds what one fate or answer uses."""
        for index, part in enumerate(uses):
            self._items.update({(index, item): True for item in part})

    def told(self):
        """The whole union, each part in ascending order."""
        ordered = sorted(self._items)
        return tuple([tuple([item for at, item in ordered if at == index]) for index in range(PARTS)])
