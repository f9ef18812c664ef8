package transfer_test

import (
	"fmt"
	"math/big"
	"slices"
	"testing"

	"shipwright/api"
	"shipwright/manifest"
	"shipwright/transfer"
)

// wrong are bytes that are not a chunk: changed in one place, cut, longer, and none.
func wrong(b []byte) map[string][]byte {
	l := map[string][]byte{"none": nil, "cut behind": b[:len(b)-1], "cut ahead": b[1:], "longer": append(slices.Clone(b), 0), "longer by itself": append(slices.Clone(b), b...), "longer ahead": append([]byte{0}, b...)}
	for _, i := range []int{0, len(b) / 2, len(b) - 1} {
		for _, by := range []byte{1, 0x80, 0xFF} {
			changed := slices.Clone(b)
			changed[i] ^= by
			l[fmt.Sprintf("changed at %d by %d", i, by)] = changed
		}
	}
	return l
}

// haves are lists of so many chunks: none there, all there, and some, with each end there and not.
func haves(many int) [][]bool {
	none, full := all(many, false), all(many, true)
	return [][]bool{none, full, but(none, 0), but(none, many-1), but(full, 0), but(full, many-1), but(none, many/2)}
}

// P17.3: each chunk of each image, where it is missing, and where it is there already; all others stay as they are.
func TestTakeTheRightChunk(t *testing.T) {
	for _, s := range shapes {
		m, chunks := build(t, text(s.size), s.chunk)
		for i, b := range chunks {
			for _, have := range haves(len(chunks)) {
				mustTake(t, "its bytes", m, have, i, b, api.OK)
			}
		}
	}
}

// P17.3: what is not the chunk is none: changed, cut, longer, and the bytes of another one.
func TestTakeAnotherChunk(t *testing.T) {
	for _, s := range shapes {
		m, chunks := build(t, text(s.size), s.chunk)
		for i, b := range chunks {
			if i > 3 && i < len(chunks)-3 {
				continue
			}
			for _, have := range haves(len(chunks)) {
				for why, x := range wrong(b) {
					mustTake(t, why, m, have, i, x, api.ErrChunk)
				}
				if other := (i + 1) % len(chunks); other != i && !slices.Equal(chunks[other], b) {
					mustTake(t, "the next one's bytes", m, have, i, chunks[other], api.ErrChunk)
				}
			}
		}
	}
}

// P17.3: of an image whose chunks are all of the same bytes each one is taken at each place, as their digests differ, and a last one that is shorter at its own alone.
func TestTakeSameBytes(t *testing.T) {
	m, chunks := build(t, make([]byte, 11), 4)
	for i := range chunks {
		for j, b := range chunks {
			want := api.OK
			if len(b) != len(chunks[i]) {
				want = api.ErrChunk
			}
			mustTake(t, fmt.Sprintf("the bytes of %d", j), m, bools("010"), i, b, want)
		}
	}
}

// P17.3: where there is no such chunk it is ErrArg: of -1, one beyond the last one, and at the ends of the type; the last one is one.
func TestTakeNoChunk(t *testing.T) {
	for _, s := range shapes {
		m, chunks := build(t, text(s.size), s.chunk)
		last := len(chunks) - 1
		for _, have := range append(haves(len(chunks)), nil, all(last, true), all(last+2, false)) {
			for _, b := range [][]byte{chunks[0], chunks[last], nil, {}, text(s.size)} {
				for _, i := range append(ends, len(chunks), len(chunks)+1, 2*len(chunks)) {
					if i < 0 || i > last {
						mustTake(t, "no chunk", m, have, i, b, api.ErrArg)
					}
				}
			}
		}
		mustTake(t, "the last one", m, all(last+1, false), last, chunks[last], api.OK)
	}
}

// P17.3: of as many members as a manifest has not Chunks it is ErrArg, where Verify is OK: one less, one more, none, and many; but Verify's own error comes first.
func TestTakeOfAnotherLength(t *testing.T) {
	for _, s := range shapes {
		m, chunks := build(t, text(s.size), s.chunk)
		n := len(chunks)
		for _, many := range []int{0, n - 1, n + 1, 2 * n, 64, 65, 1000} {
			if many == n {
				continue
			}
			for _, have := range [][]bool{all(many, false), all(many, true)} {
				for _, i := range []int{0, n / 2, n - 1} {
					b := chunks[i]
					mustTake(t, "its bytes", m, have, i, b, api.ErrArg)
					mustTake(t, "cut", m, have, i, b[1:], api.ErrChunk)
					mustTake(t, "longer", m, have, i, append(slices.Clone(b), 1), api.ErrChunk)
					mustTake(t, "changed", m, have, i, append([]byte{b[0] + 1}, b[1:]...), api.ErrChunk)
					mustTake(t, "none", m, have, i, nil, api.ErrChunk)
				}
			}
		}
	}
}

// P17.3: of a manifest that may not be it is ErrArg, whatever comes, and whatever is there.
func TestTakeOfNoManifest(t *testing.T) {
	_, chunks := build(t, text(10), 4)
	for _, m := range append(noManifests(t), api.Manifest{}) {
		for _, have := range [][]bool{nil, all(3, false), all(3, true), all(len(m.Chunks), false), all(len(m.Chunks), true), bools("10")} {
			for _, i := range append(ends, 0, 1, 2, 3, 63) {
				for _, b := range append(chunks, nil, text(10), text(10)[4:]) {
					mustTake(t, "of no manifest", m, have, i, b, api.ErrArg)
				}
			}
		}
	}
}

// P17.3: the Whole is not asked, nor are the digests of other chunks; that of the chunk alone.
func TestTakeGoesByOneDigest(t *testing.T) {
	m, chunks := build(t, text(10), 4)
	was := slices.Clone(m.Chunks)
	m.Whole[5]++
	m.Chunks[0][0]++
	m.Chunks[2][31]++
	mustTake(t, "another's digest is wrong", m, bools("000"), 1, chunks[1], api.OK)
	mustTake(t, "its digest is wrong", m, bools("000"), 0, chunks[0], api.ErrChunk)
	mustTake(t, "its digest is wrong", m, bools("111"), 2, chunks[2], api.ErrChunk)
	m.Chunks = was
	mustTake(t, "its digest is right again", m, bools("000"), 2, chunks[2], api.OK)
	m.Chunks = [][32]byte{was[1], was[0], was[2]}
	mustTake(t, "digests change places", m, bools("000"), 0, chunks[1], api.ErrChunk)
}

// P17.3: calls of all kinds are answered with just the error that Verify has, and else with that of have's length.
func TestTakeHasVerifysError(t *testing.T) {
	k, seen := uint64(3), map[api.Errno]int{}
	bad := noManifests(t)
	for range 20000 {
		s := shapes[chance(&k, 15)]
		m, chunks := build(t, text(s.size), s.chunk)
		i := chance(&k, len(chunks)+1) - chance(&k, 2)
		var b []byte
		if i >= 0 && i < len(chunks) {
			b = slices.Clone(chunks[i])
		}
		if at := chance(&k, 2*s.chunk); at < len(b) {
			b[at] ^= byte(chance(&k, 2))
		}
		have := drawnList(&k, 70, 2)
		if chance(&k, 4) > 0 {
			have = all(len(chunks), chance(&k, 2) == 0)
		}
		if chance(&k, 10) == 0 {
			m = bad[chance(&k, len(bad))]
		}
		want := manifest.Verify(m, i, b)
		if want == api.OK && len(have) != len(m.Chunks) {
			want = api.ErrArg
		}
		mustTake(t, "drawn", m, have, i, b, want)
		seen[want]++
	}
	if len(seen) != 3 || seen[api.OK] < 2000 || seen[api.ErrArg] < 2000 || seen[api.ErrChunk] < 1000 {
		t.Errorf("not enough of each: %v", seen)
	}
}

// P17.3: chunk by chunk, in whatever order, all are there in the end.
func TestTakeOneByOne(t *testing.T) {
	k := uint64(5)
	for _, s := range shapes {
		m, chunks := build(t, text(s.size), s.chunk)
		have, left := transfer.None(m), toldRound(len(chunks), new(big.Int))
		for len(left) > 0 {
			at := chance(&k, len(left))
			i := left[at]
			left = slices.Delete(left, at, at+1)
			have = mustTake(t, "its bytes", m, have, i, chunks[i], api.OK)
			mustCount(t, have, len(left), len(left) == 0)
		}
	}
}
