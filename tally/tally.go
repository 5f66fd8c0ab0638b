// Package tally counts up to a bound, so that no count wraps round.
package tally

// Most is the bound: what would be above it is it.
const Most int64 = 1 << 62

// Add gives a count, which is 0 to Most, with so many more, which are not below 0.
func Add(count, more int64) int64 { return count + min(more, Most-count) }
