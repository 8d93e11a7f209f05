// Package gather: what is the same for iterators and lists of several kinds of things.
package gather

import (
	"cmp"
	"iter"
	"slices"
)

// Number is of a kind that can be added up.
type Number interface {
	~int | ~uint64
}

// Sum adds up what the things that an iterator yields are worth.
func Sum[T any, N Number](things iter.Seq[T], worth func(T) N) N {
	var sum N
	for thing := range things {
		sum += worth(thing)
	}
	return sum
}

// Count tells how many things an iterator yields.
func Count[T any](things iter.Seq[T]) int {
	return Sum(things, func(T) int { return 1 })
}

// First is the first thing that an iterator yields, which is asked for no more; false, if it yields none.
func First[T any](things iter.Seq[T]) (T, bool) {
	for thing := range things {
		return thing, true
	}
	var none T
	return none, false
}

// Has tells whether an iterator yields this thing. It asks for no more of them once it is there.
func Has[T comparable](things iter.Seq[T], wanted T) bool {
	_, found := First(Only(things, func(thing T) bool { return thing == wanted }))
	return found
}

// Only yields those of the things that fit.
func Only[T any](things iter.Seq[T], fits func(T) bool) iter.Seq[T] {
	return func(yield func(T) bool) {
		for thing := range things {
			if fits(thing) && !yield(thing) {
				return
			}
		}
	}
}

// Chain yields the things of one iterator after those of another.
func Chain[T any](parts ...iter.Seq[T]) iter.Seq[T] {
	return func(yield func(T) bool) {
		for _, things := range parts {
			for thing := range things {
				if !yield(thing) {
					return
				}
			}
		}
	}
}

// InOrder is a new list of the things that an iterator yields, in rising order of their keys.
func InOrder[T any, K cmp.Ordered](things iter.Seq[T], key func(T) K) []T {
	return slices.SortedFunc(things, func(a, b T) int {
		return cmp.Compare(key(a), key(b))
	})
}
