"""The diary of deeds: which were begun, and how each of them ended."""


class Diary:
    """Stands around each deed by "with", so that one that is refused is put down as well."""

    def __init__(self):
        self.entries = []
        self.begun = 0
        self.open_now = False

    def __enter__(self):
        self.begun += 1
        self.entries.append(("begun", self.begun))
        self.open_now = True
        return self

    def __exit__(self, kind, value, trace):
        self.open_now = False
        if kind is None:
            self.entries.append(("done", self.begun))
        else:
            self.entries.append(("refused", self.begun))

    def twin(self):
        """Another diary with the same entries."""
        other = Diary()
        other.entries = list(self.entries)
        other.begun = self.begun
        return other
