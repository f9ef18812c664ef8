package transfer_test

import (
	"math"
	"slices"
	"testing"

	"shipwright/api"
	"shipwright/manifest"
	"shipwright/transfer"
)

// ends are numbers at the ends of their type, or near those that mean something: none of them is a chunk's place.
var ends = []int{math.MinInt, math.MinInt + 1, -1 << 33, -1<<32 - 1, -1 << 32, -1<<32 + 1, -1 << 31, -4096, -256, -64, -3, -2, -1, 64, 65, 256, 257, 4096, 1 << 16, 1 << 31, 1 << 32, 1<<32 + 1, 1 << 33, math.MaxInt - 1, math.MaxInt}

// shape is an image's size, and how many bytes a chunk of it has.
type shape struct {
	size, chunk int
}

// shapes are such as may be: of one chunk and of the most, with a last chunk that is full, and with one that is not.
var shapes = []shape{
	{1, 1}, {1, 4096}, {2, 1}, {6, 4}, {8, 4}, {9, 4}, {10, 4}, {10, 9}, {10, 10}, {10, 11}, {63, 1}, {64, 1}, {65, 2}, {128, 2}, {300, 7},
	{4096, 4096}, {4097, 4096}, {65536, 1024}, {65535, 1024}, {65473, 1024}, {65536, 4096}, {65441, 4096},
}

// text has n bytes of all kinds, without a random source.
func text(n int) []byte {
	b := make([]byte, n)
	x := uint64(n) + 17
	for i := range b {
		x = x*6364136223846793005 + 1442695040888963407
		b[i] = byte(x >> 56)
	}
	return b
}

// build is the manifest of an image, and its chunks, in the words of manifest's chapter.
func build(t *testing.T, image []byte, chunk int) (api.Manifest, [][]byte) {
	t.Helper()
	m, err := manifest.Build(image, chunk)
	if err != api.OK {
		t.Fatalf("Build of %d bytes, in chunks of %d: %d", len(image), chunk, err)
	}
	chunks := slices.Collect(slices.Chunk(image, chunk))
	if len(chunks) != len(m.Chunks) {
		t.Fatalf("%d bytes have %d chunks of %d, not %d", len(image), len(m.Chunks), chunk, len(chunks))
	}
	return m, chunks
}

// noManifests may not be, each for a reason of its own; their digests are those of an image of ten bytes, in chunks of four, as far as they go.
func noManifests(t *testing.T) []api.Manifest {
	m, _ := build(t, text(10), 4)
	var l []api.Manifest
	for _, c := range [][3]int{
		{0, 4, 3}, {-1, 4, 3}, {-10, 4, 3}, {10, 0, 3}, {10, -4, 3}, {-10, -4, 3}, {0, 0, 3}, {0, 0, 0}, {0, 4, 0}, {10, 4, 0},
		{10, 4, 1}, {10, 4, 2}, {10, 4, 4}, {10, 4, 64}, {10, 5, 3}, {10, 3, 3}, {8, 4, 3}, {13, 4, 3}, {10, 4097, 1}, {65, 1, 65}, {64, 1, 65}, {65537, 4096, 17},
		{math.MaxInt, 4, 3}, {math.MinInt, 4, 3}, {10, math.MaxInt, 1}, {10, math.MinInt, 3}, {math.MaxInt, math.MaxInt, 1}, {math.MinInt, math.MinInt, 1}, {math.MinInt, -1, 3},
	} {
		digests := slices.Grow(slices.Clone(m.Chunks), 100)[:c[2]]
		l = append(l, api.Manifest{Size: c[0], Chunk: c[1], Chunks: digests, Whole: m.Whole})
	}
	return l
}

// What the other tests go by: these manifests may not be.
func TestManifestsMayNotBe(t *testing.T) {
	for _, m := range noManifests(t) {
		if manifest.Check(m) == api.OK {
			t.Errorf("%d bytes in chunks of %d, %d of them, may be", m.Size, m.Chunk, len(m.Chunks))
		}
	}
}

// bools are those that a text tells: 1 is one that is there.
func bools(s string) []bool {
	var l []bool
	for _, c := range s {
		l = append(l, c == '1')
	}
	return l
}

// lists are bools of each text.
func lists(texts ...string) [][]bool {
	var l [][]bool
	for _, s := range texts {
		l = append(l, bools(s))
	}
	return l
}

// all are so many bools, each the same one.
func all(many int, is bool) []bool {
	return slices.Repeat([]bool{is}, many)
}

// but is a list with some of its bools turned over.
func but(l []bool, places ...int) []bool {
	l = slices.Clone(l)
	for _, i := range places {
		l[i] = !l[i]
	}
	return l
}

// everyList are all lists of at most so many bools.
func everyList(most int) [][]bool {
	l := [][]bool{nil}
	for from := 0; most > 0; most-- {
		end := len(l)
		for ; from < end; from++ {
			l = append(l, append(slices.Clone(l[from]), false), append(slices.Clone(l[from]), true))
		}
	}
	return l
}

// ownLists are lists in memory of their own.
func ownLists(l [][]bool) [][]bool {
	own := slices.Clone(l)
	for i := range own {
		own[i] = slices.Clone(own[i])
	}
	return own
}

// sameLists tells whether lists are the same, in the same order.
func sameLists(a, b [][]bool) bool {
	return slices.EqualFunc(a, b, slices.Equal)
}

// sameManifest tells whether two manifests are the same one.
func sameManifest(a, b api.Manifest) bool {
	return a.Size == b.Size && a.Chunk == b.Chunk && a.Whole == b.Whole && slices.Equal(a.Chunks, b.Chunks)
}

// chance is the next one of numbers that look like it.
func chance(k *uint64, below int) int {
	*k = *k*6364136223846793005 + 1442695040888963407
	return int(*k >> 33 % uint64(below))
}

// picked is what Pick answers.
type picked struct {
	chunk, peer int
	is          bool
}

// nothing is what Pick answers where there is nothing to pick.
var nothing = picked{0, 0, false}

// mustPick tells of a Pick that answers otherwise than it should, or that changes what it is told.
func mustPick(t *testing.T, have []bool, peers [][]bool, draw uint64, want picked) {
	t.Helper()
	hadBefore, peersBefore := slices.Clone(have), ownLists(peers)
	chunk, peer, is := transfer.Pick(have, peers, draw)
	if got := (picked{chunk, peer, is}); got != want {
		t.Errorf("Pick of %v by %d, from %v: %v instead of %v", have, draw, peers, got, want)
	}
	if !slices.Equal(have, hadBefore) || !sameLists(peers, peersBefore) {
		t.Errorf("Pick of %v by %d, from %v changed them: %v, %v", hadBefore, draw, peersBefore, have, peers)
	}
}

// mustTake tells of a Take that answers otherwise than it should, or that changes what it is told: with an error have is answered, else have, but true at i.
func mustTake(t *testing.T, why string, m api.Manifest, have []bool, i int, b []byte, want api.Errno) []bool {
	t.Helper()
	hadBefore, bytesBefore, behind := slices.Clone(have), slices.Clone(b), slices.Clone(have)
	digestsBefore := slices.Clone(m.Chunks)
	if want == api.OK {
		behind[i] = true
	}
	got, err := transfer.Take(m, have, i, b)
	if err != want || !slices.Equal(got, behind) {
		t.Errorf("Take of %d, %s, with %v: %v, %d instead of %v, %d", i, why, have, got, err, behind, want)
	}
	if !slices.Equal(have, hadBefore) || !slices.Equal(b, bytesBefore) || !slices.Equal(m.Chunks, digestsBefore) {
		t.Errorf("Take of %d, %s, with %v changed what it was told", i, why, hadBefore)
	}
	return got
}

// mustFind tells of a Find that answers otherwise than it should, or that changes what it is told.
func mustFind(t *testing.T, why string, m api.Manifest, b []byte, want []bool) {
	t.Helper()
	bytesBefore, digestsBefore := slices.Clone(b), slices.Clone(m.Chunks)
	if got := transfer.Find(m, b); !slices.Equal(got, want) {
		t.Errorf("Find of %d bytes, %s, in chunks of %d: %v instead of %v", m.Size, why, m.Chunk, got, want)
	}
	if !slices.Equal(b, bytesBefore) || !slices.Equal(m.Chunks, digestsBefore) {
		t.Errorf("Find of %d bytes, %s, in chunks of %d changed what it was told", m.Size, why, m.Chunk)
	}
}

// P17.2: the chapter's examples.
func TestExamples(t *testing.T) {
	mustPick(t, bools("100"), lists("001"), 0, picked{2, 0, true})
	for _, peers := range [][][]bool{nil, lists("11"), lists("00", "11"), lists("1111")} {
		for _, draw := range []uint64{0, 1, 2, 1 << 32, math.MaxUint64} {
			mustPick(t, bools("11"), peers, draw, nothing)
		}
	}
}
