package policy_test

import (
	"math"
	"testing"

	"shipwright/api"
)

// none is what a node has beside that has none.
const none = -1

// P12.2: the best is wanted, if it is greater than what runs, and its gate is open.
func TestWishForTheBest(t *testing.T) {
	c := plan()
	for _, other := range append([]int64{none, 17, 24, 33}, ends...) {
		mustWish(t, c, published(16), 0, 0, other, 16)
		mustWish(t, c, all(t, published(16, 33)), 1, 16, other, 33)
		mustWish(t, c, all(t, published(32), healthy(32, 0, 1)), 2, 0, other, 32)
		mustWish(t, c, all(t, published(16, 32), healthy(32, 0, 1)), 2, 16, other, 32)
		mustWish(t, c, all(t, published(16, 32), healthy(32, 0, 1), abort(32, 2)), 2, 16, other, 32)
		// What is aborted runs, and a greater one may be wanted.
		mustWish(t, c, all(t, published(16, 32, 48), abort(32, 0, 1)), 0, 32, other, 48)
		mustWish(t, c, all(t, published(16, 32, 48), abort(32, 0, 1), healthy(48, 0, 1)), 2, 32, other, 48)
		// Not the greatest one, as that is aborted; what runs was not published.
		mustWish(t, c, all(t, published(16, 32, 48), abort(48, 0, 2)), 0, 16, other, 32)
		mustWish(t, c, published(32), 0, 17, other, 32)
	}
	mustWish(t, c, published(api.MaxEpoch), 0, api.MaxEpoch-1, none, api.MaxEpoch)
	mustWish(t, c, published(17), 0, 16, none, 17)
}

// P12.2: with the gate shut what runs stays, unless it is aborted.
func TestWishBehindAGate(t *testing.T) {
	c := plan()
	for _, l := range [][]api.Fact{
		published(16, 32), all(t, published(16, 32), healthy(32, 0)), all(t, published(16, 32), healthy(32, 1, 2)),
		// The gate is that of the best, not of what runs, or is there beside.
		all(t, published(16, 32), healthy(16, 0, 1)), all(t, published(16, 32), healthy(17, 0, 1), abort(32, 0)),
	} {
		for _, other := range append([]int64{none, 17, 32}, ends...) {
			mustWish(t, c, l, 2, 0, other, 0)
			mustWish(t, c, l, 2, 16, other, 16)
		}
	}
	l := all(t, published(16, 17, 32), abort(17, 0, 1), healthy(17, 0, 1), healthy(32, 0))
	for _, x := range [][2]int64{{0, 0}, {16, 16}, {none, 17}, {17, 17}, {18, 17}, {32, 17}, {1, 1}} {
		mustWish(t, c, l, 2, 17, x[0], x[1])
		mustWish(t, c, l, 0, 17, x[0], 32)
	}
}

// P12.2: where the best is what runs, or less, what runs stays, whatever is there beside.
func TestWishStays(t *testing.T) {
	c := plan()
	for _, other := range append([]int64{none, 17, 31, 32, 33, 48}, ends...) {
		for node := range 3 {
			mustWish(t, c, all(t, published(16, 32), healthy(32, 0, 1)), node, 32, other, 32)
			mustWish(t, c, all(t, published(16, 32), abort(32, 0)), node, 32, other, 32)
			mustWish(t, c, all(t, published(16, 32), abort(16, 0, 1, 2)), node, 32, other, 32)
			mustWish(t, c, all(t, published(16, 32), healthy(16, 0, 1)), node, 48, other, 48)
			mustWish(t, c, nil, node, 48, other, 48)
			mustWish(t, c, healthy(48, 0, 1), node, 16, other, 16)
		}
	}
}

// P12.2: the epoch 0 is not left for what is there beside, whatever is said of it.
func TestWishOfTheFirstImage(t *testing.T) {
	c := plan()
	for _, other := range append([]int64{none, 17, 24, 33}, ends...) {
		for node := range 3 {
			mustWish(t, c, nil, node, 0, other, 0)
			mustWish(t, c, abort(0, 0, 1, 2), node, 0, other, 0)
			mustWish(t, c, all(t, published(16), abort(16, 0, 1)), node, 0, other, 0)
			mustWish(t, c, append(abort(0, 0, 1, 2), published(0, -16)...), node, 0, other, 0)
			mustWish(t, c, healthy(16, 0, 1, 2), node, 0, other, 0)
		}
	}
}

// P12.2: what is aborted is left for what is there beside, if that is less, and not aborted itself.
func TestWishForTheOther(t *testing.T) {
	c := plan()
	for _, l := range [][]api.Fact{
		all(t, published(16, 32), abort(32, 0, 1)), all(t, published(16, 32), abort(32, 1, 2), healthy(32, 0, 1)), all(t, published(16, 32), abort(32, 0, 1, 2), abort(16, 2)),
		abort(32, 0, 2), all(t, published(32), abort(32, 0, 1)),
	} {
		for _, x := range [][2]int64{
			{0, 0}, {1, 1}, {15, 15}, {16, 16}, {17, 17}, {31, 31}, // those below 16 no node has, but they are at least 0, and less
			{none, 32}, {-2, 32}, {-16, 32}, {math.MinInt64, 32},
			{32, 32}, {33, 32}, {48, 32}, {16 + 1<<32, 32}, {math.MaxInt64, 32},
		} {
			for node := range 3 {
				mustWish(t, c, l, node, 32, x[0], x[1])
			}
		}
	}
}

// P12.2: what is there beside is aborted itself, or not by enough.
func TestWishForAnAbortedOther(t *testing.T) {
	c := plan()
	l := all(t, published(16, 17, 32), abort(16, 0, 1), abort(17, 2), abort(32, 1, 2))
	for node := range 3 {
		mustWish(t, c, l, node, 32, 16, 32)
		mustWish(t, c, l, node, 32, 17, 17)
		mustWish(t, c, l, node, 32, 0, 0)
		// Nothing said of the epoch 0 counts.
		mustWish(t, c, append(abort(0, 0, 1, 2), l...), node, 32, 0, 0)
	}
	// What is said of any other one counts, also of those that nobody publishes.
	for _, other := range []int64{1, 2, 15, 16, 31} {
		mustWish(t, c, append(abort(32, 0, 1), abort(other, 0, 1)...), 0, 32, other, 32)
	}
	// It is not the best that is wanted in its place.
	mustWish(t, c, all(t, published(16, 17, 32), abort(32, 0, 1)), 0, 32, 16, 16)
	mustWish(t, c, all(t, published(16, 17, 32), abort(32, 0, 1)), 0, 32, none, 32)
}

// P12.2: an epoch is aborted by just as many as the majority, not by one less.
func TestWishAtTheMajority(t *testing.T) {
	c := nine()
	for many := range 10 {
		nodes := []int{8, 3, 1, 0, 7, 2, 6, 4, 5}[:many]
		l := all(t, published(16, 32), abort(32, nodes...))
		both := all(t, published(16, 32), abort(32, 0, 2, 4, 6, 8), abort(16, nodes...))
		for node := range 9 {
			if many >= 5 {
				mustWish(t, c, l, node, 32, 16, 16)
				mustWish(t, c, l, node, 32, 0, 0)
				mustWish(t, c, both, node, 32, 16, 32)
			} else {
				mustWish(t, c, l, node, 32, 16, 32)
				mustWish(t, c, l, node, 32, 0, 32)
				mustWish(t, c, both, node, 32, 16, 16)
			}
		}
		// The best is told by the same majority.
		want := int64(32)
		if many >= 5 {
			want = 16
		}
		mustWish(t, c, l, 1, 0, none, want)
	}
}

// P12.2: numbers at the ends of their types, as the chapter's words have them.
func TestWishAtTheEnds(t *testing.T) {
	c := plan()
	// Of none the best is 0, and that is greater than what is below 0.
	for _, running := range []int64{math.MinInt64, math.MinInt64 + 1, -16, -1} {
		for _, other := range ends {
			mustWish(t, c, nil, 0, running, other, 0)
			mustWish(t, c, nil, 2, running, other, running)
			mustWish(t, c, healthy(0, 0, 1), 2, running, other, 0)
			mustWish(t, c, abort(running, 0, 1, 2), 2, running, other, running)
		}
	}
	const top = math.MaxInt64
	for node := range 3 {
		mustWish(t, c, abort(top, 0, 1), node, top, top-1, top-1)
		mustWish(t, c, abort(top, 0, 1), node, top, 0, 0)
		mustWish(t, c, abort(top, 0, 1), node, top, top, top)
		mustWish(t, c, abort(top, 0, 1), node, top, math.MinInt64, top)
		mustWish(t, c, abort(1, 0, 1), node, 1, 0, 0)
		mustWish(t, c, published(top), node, top, 0, top)
	}
	mustWish(t, c, published(top), 0, top-1, 0, top)
}
