"""Coatrows: paints over regions of which only facts are known."""
