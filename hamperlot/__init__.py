"""Hamperlot: hampers that hold whole amounts of goods, and every bill that can be filled by them."""
