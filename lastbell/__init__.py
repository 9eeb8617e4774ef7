"""Lastbell: loads that are through by a bell, from many doors to many doors."""
