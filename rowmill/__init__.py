"""Rowmill: a machine that does several rows at once, and answers as the plain one does."""
