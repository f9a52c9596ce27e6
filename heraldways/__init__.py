"""Heraldways: houses that tell one another roads by letters."""
