"""What holds for all texts and all fillings, and papers that show it."""
