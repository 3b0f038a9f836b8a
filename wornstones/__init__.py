"""Broken inscriptions, and all texts that can stand on them."""
