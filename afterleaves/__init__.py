"""Afterleaves: rule books on loose leaves that point into themselves."""
