// Package magic tells which factors bring what a bishop or rook reaches into a table.
package magic

import (
	"rook/gather"
	"rook/mixing"
	"rook/sets"
)

// MaxBits is as many as squares matter to a rook in a corner.
const MaxBits = 12

// view is what a piece reaches where these squares are not empty.
type view struct {
	taken, reached sets.Set
}

// matter are the squares that matter: a man on one of them hides others. On the last square of a line he does not.
func matter(kind, square int) sets.Set {
	var all sets.Set
	open := sets.Reach(kind, square, 0)
	for s := range open.Squares() {
		if sets.Reach(kind, square, sets.One(s)) != open {
			all |= sets.One(s)
		}
	}
	return all
}

// views has one for each set of squares that matter.
func views(kind, square int) []view {
	var list []view
	for taken := range matter(kind, square).Subsets() {
		list = append(list, view{taken, sets.Reach(kind, square, taken)})
	}
	return list
}

// Is tells whether a factor is magic for a bishop or rook on a square, with 1 to MaxBits bits.
func Is(kind, square int, factor uint64, bits int) bool {
	return fits(views(kind, square), factor, make([]sets.Set, 1<<bits), bits)
}

// fits tells whether views that come to the same place of the table are the same. A bishop or rook reaches some square always, so that an empty set is a place to which none has come yet.
func fits(list []view, factor uint64, table []sets.Set, bits int) bool {
	clear(table)
	for _, v := range list {
		place := uint64(v.taken) * factor >> (64 - bits)
		if table[place] != 0 && table[place] != v.reached {
			return false
		}
		table[place] = v.reached
	}
	return true
}

// Find is the first magic factor of a seed, with as many bits as squares matter, and at which of the tries it came; 0 and 0, if none is.
func Find(kind, square int, seed uint64, tries int) (uint64, int) {
	bits := gather.Count(matter(kind, square).Squares())
	list, table := views(kind, square), make([]sets.Set, 1<<bits)
	for k := 1; k <= tries; k++ {
		if f := factor(seed, uint64(k)); fits(list, f, table, bits) {
			return f, k
		}
	}
	return 0, 0
}

// factor has few bits set, as most of those do that are magic.
func factor(seed, k uint64) uint64 {
	return mixing.Number(seed, 3*k-2) & mixing.Number(seed, 3*k-1) & mixing.Number(seed, 3*k)
}
