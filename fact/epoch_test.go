package fact_test

import (
	"math"
	"testing"

	"shipwright/api"
	"shipwright/fact"
)

// P10.1: epochs at the limits, beyond them, and far off; and those whose rest is no node's.
func TestOf(t *testing.T) {
	for _, c := range []struct {
		epoch int64
		node  int
		n     int64
	}{
		{16, 0, 1}, {17, 1, 1}, {24, 8, 1}, {25, 9, 1}, {26, 10, 1}, {27, 11, 1}, {28, 12, 1}, {29, 13, 1}, {30, 14, 1}, {31, 15, 1},
		{32, 0, 2}, {33, 1, 2}, {35, 3, 2}, {41, 9, 2}, {47, 15, 2}, {48, 0, 3}, {256, 0, 16}, {271, 15, 16}, {272, 0, 17},
		{1<<32 + 5, 5, 1 << 28}, {top - 17, 15, 1<<36 - 2}, {top - 16, 0, 1<<36 - 1}, {top - 8, 8, 1<<36 - 1}, {top - 1, 15, 1<<36 - 1}, {top, 0, 1 << 36},
		{top + 1, 0, 0}, {top + 16, 0, 0}, {2 * top, 0, 0}, {high, 0, 0}, {high + 35, 0, 0}, {math.MaxInt64, 0, 0}, {math.MaxInt64 - 1, 0, 0},
		{15, 0, 0}, {9, 0, 0}, {3, 0, 0}, {1, 0, 0}, {0, 0, 0},
		{-1, 0, 0}, {-3, 0, 0}, {-16, 0, 0}, {-35, 0, 0}, {-top, 0, 0}, {-high, 0, 0}, {35 - high - high, 0, 0}, {math.MinInt64, 0, 0}, {math.MinInt64 + 1, 0, 0},
	} {
		if node, n := fact.Of(c.epoch); node != c.node || n != c.n {
			t.Errorf("Of(%d): %d, %d; want %d, %d", c.epoch, node, n, c.node, c.n)
		}
	}
}

// P10.1: the first epochs, one behind the other: each number has sixteen.
func TestOfTheFirst(t *testing.T) {
	epoch := int64(16)
	for n := int64(1); n < 300; n++ {
		for rest := range 16 {
			if node, number := fact.Of(epoch); node != rest || number != n {
				t.Errorf("Of(%d): %d, %d; want %d, %d", epoch, node, number, rest, n)
			}
			epoch++
		}
	}
}

// P10.1: each node's, at the limits of numbers.
func TestEpoch(t *testing.T) {
	for node := range 9 {
		for _, n := range []int64{1, 2, 3, 15, 16, 17, 1 << 28, 1<<32 + 1, 1<<36 - 2, 1<<36 - 1} {
			if e := fact.Epoch(node, n); e != n*16+int64(node) {
				t.Errorf("Epoch(%d, %d): %d", node, n, e)
			}
		}
	}
	for _, c := range [][3]int64{{0, 1, 16}, {3, 2, 35}, {8, 1, 24}, {8, 1<<36 - 1, top - 8}, {0, 1<<36 - 1, top - 16}, {1, 1<<36 - 1, top - 15}, {0, 1 << 36, top}} {
		if e := fact.Epoch(int(c[0]), c[1]); e != c[2] {
			t.Errorf("Epoch(%d, %d): %d, want %d", c[0], c[1], e, c[2])
		}
	}
}

// P10.1: nodes that are none, numbers that are none, and those so great that the epoch is beyond MaxEpoch, or beyond all numbers.
func TestNoEpoch(t *testing.T) {
	numbers := []int64{1, 2, 1<<36 - 1, 1 << 36}
	far := []int64{
		0, -1, -2, -16, -1 << 36, math.MinInt64, math.MinInt64 + 1, 1<<36 + 1, 1 << 40, 1 << 59, 1<<59 + 1, 1 << 60, 1<<60 + 1, 1<<60 + 1<<36, 1 << 61, 1<<61 + 2,
		1 << 62, 1<<62 + 1, 1<<63 - 1<<60 + 2, 2 - 1<<60, 1 - 1<<62, math.MinInt64 + 2, math.MinInt64 + 1<<36, math.MaxInt64, math.MaxInt64 - 1,
	}
	for _, node := range []int{-1, -2, -15, -16, 9, 10, 15, 16, 17, 25, 1 << 32, 1<<32 + 1, -1 << 32, high, high + 3, math.MaxInt, math.MaxInt - 1, math.MinInt, math.MinInt + 1, math.MinInt + 3} {
		for _, n := range append(numbers, far...) {
			if e := fact.Epoch(node, n); e != 0 {
				t.Errorf("Epoch(%d, %d), of no node: %d", node, n, e)
			}
		}
	}
	for node := range 9 {
		for _, n := range far {
			if e := fact.Epoch(node, n); e != 0 {
				t.Errorf("Epoch(%d, %d), of no number: %d", node, n, e)
			}
		}
		if e := fact.Epoch(node, 1<<36); node > 0 && e != 0 {
			t.Errorf("Epoch(%d, 2^36): %d", node, e)
		}
	}
}

// P10.1: Of gives back what Epoch was made of, and no two of these are the same one.
func TestOfGivesBack(t *testing.T) {
	type made struct {
		node int
		n    int64
	}
	seen := map[int64]made{}
	k := uint64(10)
	for i := range 20000 {
		m := made{draw(&k, 9), 1 + int64(draw(&k, 1<<30))<<6>>(i%37)}
		e := fact.Epoch(m.node, m.n)
		if node, n := fact.Of(e); node != m.node || n != m.n || e < 16 || e > api.MaxEpoch {
			t.Fatalf("Epoch(%d, %d): %d, that is of %d, %d", m.node, m.n, e, node, n)
		}
		if other, ok := seen[e]; ok && other != m {
			t.Fatalf("Epoch(%d, %d) and Epoch(%d, %d): %d", m.node, m.n, other.node, other.n, e)
		}
		seen[e] = m
	}
}
