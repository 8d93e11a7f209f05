// Package gather: what is the same for iterators and lists of several kinds of things.
package gather

import "iter"

// Count tells how many things an iterator yields.
func Count[T any](things iter.Seq[T]) int {
	n := 0
	for range things {
		n++
	}
	return n
}
