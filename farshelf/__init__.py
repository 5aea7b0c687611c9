"""Farshelf: shelves of files kept by several masters, read by hands that keep copies."""
