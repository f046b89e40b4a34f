"""Copyvotes: which copies of a store a read and a write must reach."""
