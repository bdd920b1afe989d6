"""Fields and their codes."""
