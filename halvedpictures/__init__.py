"""Pictures by sums and differences, halved and halved again."""
