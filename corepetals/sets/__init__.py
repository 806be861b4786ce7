"""Collections of sets, and flowers among sets."""
