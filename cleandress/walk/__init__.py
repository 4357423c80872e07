"""Roads: what comes along a row of cleaners and dresses."""
