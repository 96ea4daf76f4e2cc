"""Cells: some gates, read from texts, and what they tell by bits."""
