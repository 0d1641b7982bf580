"""Halfmade: modules that take one another, and what stands while they are made."""
