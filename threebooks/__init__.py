"""Three books of one fund held against each other."""
