"""Boundsmith: schedules with bounds that show none is better."""
