"""Quotehall: pieces of programs, made by programs."""
