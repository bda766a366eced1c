"""Sightbook: what a watcher knows who sees only signs of a machine's deeds."""
