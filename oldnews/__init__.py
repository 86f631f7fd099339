"""Oldnews: houses that set their lamps by old news."""
