"""Bandwright: tables of told shapes undone with the fewest deeds."""
