"""Collections as great as they can be."""
