"""Pearlrise: pearls strung so that they rise to the middle."""
