"""Quantities in texts, read strictly and worked out exactly."""
