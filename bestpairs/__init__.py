"""Two lists joined by keys, and the best pairs by several measures: see bestpairs.joins.answers."""
