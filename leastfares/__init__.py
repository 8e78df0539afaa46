"""Journeys priced by the least sum of fares."""
