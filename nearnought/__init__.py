"""Nearnought: rows of amounts that stay near nothing all along."""
