"""Moatways: told places joined at little cost, with papers of moats."""
