package lattice_test

import (
	"math"
	"testing"

	"shipwright/api"
	"shipwright/lattice"
)

// lessThanOne are majorities that each epoch has, whoever says what.
var lessThanOne = []int{0, -1, -2, -9, math.MinInt, math.MinInt + 1}

// mustBest tells of a Best that is another one.
func mustBest(t *testing.T, l []api.Fact, majority int, want int64) {
	t.Helper()
	if e := lattice.Best(l, majority); e != want {
		t.Errorf("Best(%d) of %v: %d, want %d", majority, told(l), e, want)
	}
}

// mustNext tells of a Next that is another one.
func mustNext(t *testing.T, l []api.Fact, want int64) {
	t.Helper()
	if n := lattice.Next(l); n != want {
		t.Errorf("Next of %v: %d, want %d", told(l), n, want)
	}
}

// P11.2: of none there is no best.
func TestBestOfNone(t *testing.T) {
	for _, majority := range append([]int{1, 2, 5, 9, math.MaxInt}, lessThanOne...) {
		mustBest(t, nil, majority, 0)
		mustBest(t, []api.Fact{}, majority, 0)
		mustBest(t, several()[:0], majority, 0)
	}
}

// P11.2: one epoch is the best, unless as many as the majority want it aborted.
func TestBestOfOne(t *testing.T) {
	for _, epoch := range []int64{16, 35, 1 << 32, top - 8, top} {
		l := []api.Fact{published(epoch, 1)}
		mustBest(t, l, 1, epoch)
		for node := range 9 {
			l = append(l, abort(epoch, node))
			mustBest(t, l, node, 0)
			mustBest(t, l, node+1, 0)
			mustBest(t, l, node+2, epoch)
			mustBest(t, l, math.MaxInt, epoch)
		}
		for _, majority := range lessThanOne {
			mustBest(t, l, majority, 0)
			mustBest(t, l[:1], majority, 0)
		}
	}
}

// P11.2: of several the greatest one that is not aborted, by each majority.
func TestBestOfSeveral(t *testing.T) {
	l := []api.Fact{
		published(16, 1),
		published(24, 2), abort(24, 0),
		published(32, 3), healthy(32, 0), healthy(32, 1), healthy(32, 2), healthy(32, 3), abort(32, 5), abort(32, 6),
		published(33, 4), abort(33, 0), abort(33, 1), abort(33, 2),
		published(1<<32, 5), abort(1<<32, 0), abort(1<<32, 1), abort(1<<32, 2), abort(1<<32, 3), abort(1<<32, 4),
		healthy(1<<32+1, 0), healthy(1<<32+1, 1),
		abort(top, 0),
	}
	for majority, want := range []int64{0, 16, 24, 32, 33, 33, 1 << 32, 1 << 32, 1 << 32} {
		mustBest(t, l, majority, want)
	}
	mustBest(t, l, math.MaxInt, 1<<32)
	for _, majority := range lessThanOne {
		mustBest(t, l, majority, 0)
	}
}

// P11.2: all are aborted; and those who want one aborted do not count for another.
func TestBestOfAborted(t *testing.T) {
	l := []api.Fact{published(16, 1), abort(16, 0), abort(16, 1), published(17, 2), abort(17, 0), abort(17, 2), published(33, 3), abort(33, 1), abort(33, 2)}
	mustBest(t, l, 1, 0)
	mustBest(t, l, 2, 0)
	mustBest(t, l, 3, 33)
	mustBest(t, l, 6, 33)
}

// P11.2: one that was not published does not count, whatever is said of it.
func TestBestIsPublished(t *testing.T) {
	mustBest(t, []api.Fact{healthy(16, 0), healthy(16, 1), abort(33, 0)}, 2, 0)
	mustBest(t, []api.Fact{published(16, 1), healthy(17, 0), healthy(17, 1), abort(33, 0)}, 2, 16)
	mustBest(t, []api.Fact{healthy(16, 0), published(17, 1), healthy(35, 0), healthy(top, 0)}, 2, 17)
}

// P11.2: whatever was added, it is what Aborted says of each epoch.
func TestBestIsWhatAbortedSays(t *testing.T) {
	k := uint64(7)
	for range 300 {
		var l []api.Fact
		for range draw(&k, 60) {
			epoch := int64(16 + 16*draw(&k, 5) + draw(&k, 3))
			l, _ = lattice.Add(3, l, []api.Fact{published(epoch, 1), healthy(epoch, draw(&k, 3)), abort(epoch, draw(&k, 3)), abort(epoch, draw(&k, 3))}[draw(&k, 4)])
		}
		for majority := -1; majority <= 4; majority++ {
			want := int64(0)
			for _, f := range l {
				if f.Kind == api.FEpoch && f.Epoch > want && !lattice.Aborted(l, f.Epoch, majority) {
					want = f.Epoch
				}
			}
			mustBest(t, l, majority, want)
		}
	}
}

// P11.2: the number behind the greatest one: of none, of one, of several, and of each kind.
func TestNext(t *testing.T) {
	for _, none := range [][]api.Fact{nil, {}, several()[:0]} {
		mustNext(t, none, 1)
	}
	for _, c := range []struct{ epoch, want int64 }{
		{16, 2}, {17, 2}, {24, 2}, {32, 3}, {35, 3}, {40, 3}, {48, 4}, {160, 11}, {168, 11}, {1 << 32, 1<<28 + 1}, {1<<32 + 5, 1<<28 + 1}, {top - 16, 1 << 36}, {top - 8, 1 << 36}, {top, 1<<36 + 1},
	} {
		for _, f := range []api.Fact{published(c.epoch, 1), healthy(c.epoch, 2), abort(c.epoch, 2)} {
			mustNext(t, []api.Fact{f}, c.want)
			if c.epoch >= 32 {
				mustNext(t, []api.Fact{published(16, 1), healthy(16, 3), abort(18, 4), f}, c.want)
			}
		}
	}
	mustNext(t, several(), 1<<36+1)
}

// P11.2: an epoch that only one abort names counts, and one that is aborted, too.
func TestNextOfAborted(t *testing.T) {
	mustNext(t, []api.Fact{published(16, 1), abort(83, 2)}, 6)
	mustNext(t, []api.Fact{published(16, 1), healthy(83, 2)}, 6)
	mustNext(t, []api.Fact{published(16, 1), published(32, 1), abort(32, 0), abort(32, 1), abort(32, 2)}, 3)
}

// P11.2: numbers that are alike, of nodes that are not, are one number.
func TestNextOfAlike(t *testing.T) {
	mustNext(t, []api.Fact{published(32, 1), published(33, 2), published(40, 3)}, 3)
	mustNext(t, []api.Fact{published(24, 1), published(32, 2)}, 3)
	mustNext(t, []api.Fact{published(16, 1), published(24, 2)}, 2)
}

// P11.2: an epoch that none has counts as the number 0 that fact.Of has for it.
func TestNextOfNoEpoch(t *testing.T) {
	for _, epoch := range farOff {
		mustNext(t, []api.Fact{healthy(epoch, 0)}, 1)
		mustNext(t, []api.Fact{healthy(epoch, 0), abort(35, 0)}, 3)
		mustNext(t, []api.Fact{abort(35, 0), published(epoch, 1)}, 3)
	}
}
