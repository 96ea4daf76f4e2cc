"""Fields: cells of one kind laid side by side and one below the other."""
