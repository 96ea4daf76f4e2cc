"""Rows: cells of one kind laid one beside the other, and whether what they tell is right at every width."""
