package policy_test

import (
	"math"
	"testing"

	"shipwright/api"
)

// P12.3: the best is fetched, if it is greater than what runs, whatever gates say.
func TestFetchTheBest(t *testing.T) {
	c := plan()
	l := all(t, published(16, 33))
	for _, x := range [][2]int64{{0, 33}, {15, 33}, {16, 33}, {17, 33}, {32, 33}, {33, 33}, {34, 34}, {48, 48}, {api.MaxEpoch, api.MaxEpoch}, {math.MaxInt64, math.MaxInt64}} {
		mustFetch(t, c, l, x[0], x[1])
	}
	mustFetch(t, c, published(api.MaxEpoch), api.MaxEpoch-1, api.MaxEpoch)
	mustFetch(t, c, all(t, published(16, 32, 48), abort(48, 0, 2)), 0, 32)
	mustFetch(t, c, all(t, published(16, 32, 48), abort(48, 0, 2)), 16, 32)
	mustFetch(t, c, all(t, published(16, 32, 48), abort(48, 0)), 32, 48)
}

// P12.3: where the best is what runs, or less, nothing else is fetched, unless what runs is aborted.
func TestFetchStays(t *testing.T) {
	c := plan()
	for _, l := range [][]api.Fact{
		published(16, 32), all(t, published(16, 32), abort(32, 2)), all(t, published(16, 32), abort(16, 0, 1, 2)), all(t, published(16, 32), healthy(32, 0, 1, 2)),
		all(t, published(16), healthy(48, 0, 1, 2), abort(33, 0, 1)), nil,
	} {
		mustFetch(t, c, l, 32, 32)
		mustFetch(t, c, l, 48, 48)
	}
}

// P12.3: what is aborted is left for the best, be it greater or less, if there is one.
func TestFetchFromAborted(t *testing.T) {
	c := plan()
	for _, x := range []struct {
		published []int64
		aborted   []int64
		want      int64
	}{
		{[]int64{16, 32}, []int64{32}, 16},
		{[]int64{16, 17, 32}, []int64{32}, 17},
		{[]int64{16, 17, 32}, []int64{17, 32}, 16},
		{[]int64{16, 32, 48}, []int64{32}, 48},
		{[]int64{16, 32, 48}, []int64{32, 48}, 16},
		{[]int64{16}, []int64{32}, 16}, // it was not published itself
		{[]int64{48}, []int64{32}, 48},
		{[]int64{16, 32}, []int64{16, 32}, 32}, // there is none
		{[]int64{32}, []int64{32}, 32},
		{nil, []int64{32}, 32},
	} {
		l := published(x.published...)
		for _, epoch := range x.aborted {
			l = append(l, abort(epoch, 0, 2)...)
		}
		mustFetch(t, c, all(t, l), 32, x.want)
	}
}

// P12.3: an epoch is aborted by just as many as the majority, not by one less.
func TestFetchAtTheMajority(t *testing.T) {
	c := nine()
	for many := range 10 {
		l := all(t, published(16, 32), abort(32, []int{8, 3, 1, 0, 7, 2, 6, 4, 5}[:many]...))
		want := int64(32)
		if many >= 5 {
			want = 16
		}
		mustFetch(t, c, l, 32, want)
		mustFetch(t, c, l, 0, want)
		mustFetch(t, c, l, 16, want)
	}
}

// P12.3: the epoch 0 is left for a greater one alone, whatever is said of it.
func TestFetchFromTheFirstImage(t *testing.T) {
	c := plan()
	for _, l := range [][]api.Fact{
		nil, healthy(16, 0, 1, 2), abort(0, 0, 1, 2), all(t, published(16), abort(16, 1, 2)),
		append(published(-16), abort(0, 0, 1, 2)...), append(published(0, math.MinInt64), abort(0, 0, 1, 2)...),
	} {
		mustFetch(t, c, l, 0, 0)
	}
	mustFetch(t, c, append(abort(0, 0, 1, 2), published(16)...), 0, 16)
}

// P12.3: numbers at the ends of their types, as the chapter's words have them.
func TestFetchAtTheEnds(t *testing.T) {
	c := plan()
	for _, running := range ends {
		// Of none the best is 0: greater than what is below 0, and else none at all.
		mustFetch(t, c, nil, running, max(running, 0))
		mustFetch(t, c, abort(running, 0, 1), running, max(running, 0))
		mustFetch(t, c, published(math.MaxInt64), running, math.MaxInt64)
		mustFetch(t, c, published(math.MinInt64), running, running)
	}
	for _, running := range []int64{math.MinInt64, -16, -1, 1, 15, math.MaxInt64} {
		mustFetch(t, c, append(published(16), abort(running, 0, 1)...), running, 16)
		mustFetch(t, c, append(published(math.MinInt64+1), abort(running, 0, 1)...), running, math.MinInt64+1)
	}
}
