"""What all parts of the package stand on: signs, texts and numbers."""
