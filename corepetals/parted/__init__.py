"""Collections parted, and tuples of sets that go across."""
