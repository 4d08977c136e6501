"""Peekproof: how often live experiments can be wrong, whatever happens and whenever one looks."""
