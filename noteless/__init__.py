"""Noteless: when a player on a board can do without memory."""
