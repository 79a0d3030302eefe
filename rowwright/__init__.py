"""Rowwright: rows of whole numbers, what can be made of them, and why not."""
