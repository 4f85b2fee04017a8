"""Tables of things and marks, and their lattices."""
