// Package mixing: the generator of numbers.
package mixing

import "rook/api"

// Number is the n-th number (n from 1 on) of a seed's generator.
func Number(seed, n uint64) uint64 {
	return mix(seed + n*api.MixA)
}

func mix(x uint64) uint64 {
	x = (x ^ x>>30) * api.MixB
	x = (x ^ x>>27) * api.MixC
	return x ^ x>>31
}
