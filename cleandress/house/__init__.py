"""Houses: which dress and which cleaner a file gets by its path, and what becomes of the texts that are stored."""
