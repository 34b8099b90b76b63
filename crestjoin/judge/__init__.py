"""Claims and papers, and a checker that takes them."""
