"""Lentshelf: reckoning on shelves that are all lent."""
