"""Ziplanes: lanes that merge like a zipper."""
