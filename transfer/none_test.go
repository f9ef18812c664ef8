package transfer_test

import (
	"math"
	"slices"
	"testing"

	"shipwright/api"
	"shipwright/transfer"
)

// mustBeNone tells of a None that has not as many bools as a manifest has Chunks, or not all false.
func mustBeNone(t *testing.T, m api.Manifest) {
	t.Helper()
	if got := transfer.None(m); !slices.Equal(got, all(len(m.Chunks), false)) {
		t.Errorf("None of %d bytes in chunks of %d, %d of them: %v", m.Size, m.Chunk, len(m.Chunks), got)
	}
}

// P17.1: of each image that may be, of one chunk, of some, and of the most.
func TestNone(t *testing.T) {
	seen := map[int]bool{}
	for _, s := range shapes {
		m, chunks := build(t, text(s.size), s.chunk)
		mustBeNone(t, m)
		seen[len(chunks)] = true
	}
	if !seen[1] || !seen[3] || !seen[api.MaxChunks] {
		t.Errorf("not of all numbers of chunks: %v", seen)
	}
}

// P17.1: of manifests that may not be there are as many as they have Chunks, too, whatever their Size and Chunk.
func TestNoneOfNoManifest(t *testing.T) {
	mustBeNone(t, api.Manifest{})
	for _, m := range noManifests(t) {
		mustBeNone(t, m)
	}
	for _, many := range []int{0, 1, 2, 3, 63, 64, 65, 100, 1000, 100000} {
		for _, n := range []int{math.MinInt, -1, 0, 1, 10, many, math.MaxInt} {
			mustBeNone(t, api.Manifest{Size: n, Chunk: n, Chunks: make([][32]byte, many)})
			mustBeNone(t, api.Manifest{Size: n, Chunk: 1, Chunks: make([][32]byte, many)})
		}
	}
}

// mustCount tells of chunks of which another number is missing than should be, or that are done where one is.
func mustCount(t *testing.T, have []bool, missing int, done bool) {
	t.Helper()
	was := slices.Clone(have)
	if got := transfer.Missing(have); got != missing {
		t.Errorf("Missing of %v: %d instead of %d", have, got, missing)
	}
	if got := transfer.Done(have); got != done {
		t.Errorf("Done of %v: %v instead of %v", have, got, done)
	}
	if !slices.Equal(have, was) {
		t.Errorf("%v is %v by now", was, have)
	}
}

// P17.1: of none nothing is missing, and yet they are not done.
func TestNoneAreNotDone(t *testing.T) {
	mustCount(t, nil, 0, false)
	mustCount(t, []bool{}, 0, false)
	mustCount(t, transfer.None(api.Manifest{}), 0, false)
}

// P17.1: of all true, of all false, and of one that is otherwise, at either end and between them.
func TestDoneAndMissing(t *testing.T) {
	for _, many := range []int{1, 2, 3, 4, 10, 63, 64, 65, 255, 256, 257, 1000, 100000} {
		mustCount(t, all(many, true), 0, true)
		mustCount(t, all(many, false), many, false)
		for _, i := range []int{0, many / 2, many - 1} {
			mustCount(t, but(all(many, true), i), 1, false)
			mustCount(t, but(all(many, false), i), many-1, many == 1)
		}
		if many > 1 {
			mustCount(t, but(all(many, true), 0, many-1), 2, false)
			mustCount(t, but(all(many, false), 0, many-1), many-2, many == 2)
		}
	}
}

// P17.1: of each list of few.
func TestDoneAndMissingOfEach(t *testing.T) {
	for _, have := range everyList(8) {
		mustCount(t, have, len(have)-count(have), len(have) > 0 && !slices.Contains(have, false))
	}
}

// count is how many of a list are true.
func count(l []bool) int {
	many := 0
	for _, is := range l {
		if is {
			many++
		}
	}
	return many
}

// P17.1: spare room counts for nothing.
func TestSpareRoomIsNotCounted(t *testing.T) {
	mustCount(t, bools("11000")[:2], 0, true)
	mustCount(t, bools("10111")[:2], 1, false)
	mustCount(t, bools("111")[:0], 0, false)
}
