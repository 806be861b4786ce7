"""Near flowers, told by shares."""
