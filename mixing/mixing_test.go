package mixing

import "testing"

// The numbers of the seeds 0 and 1234567 are those that others tell of this generator.
func TestNumbersThatAreKnown(t *testing.T) {
	for seed, want := range map[uint64][]uint64{
		0:       {0xe220a8397b1dcdaf, 0x6e789e6aa1b965f4, 0x06c45d188009454f, 0xf88bb8a8724c81ec},
		1234567: {6457827717110365317, 3203168211198807973, 9817491932198370423, 4593380528125082431, 16408922859458223821},
	} {
		for i, n := range want {
			if got := Number(seed, uint64(i+1)); got != n {
				t.Errorf("number %d of the seed %d: %#x, want %#x", i+1, seed, got, n)
			}
		}
	}
}

func TestMixNothing(t *testing.T) {
	if got := mix(0); got != 0 {
		t.Errorf("0 is mixed to %#x", got)
	}
}
