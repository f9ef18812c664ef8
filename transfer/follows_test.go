package transfer_test

import (
	"slices"
	"testing"

	"shipwright/api"
	"shipwright/manifest"
	"shipwright/transfer"
)

// someoneHas tells whether some peer has a chunk that is missing.
func someoneHas(have []bool, peers [][]bool) bool {
	for i, is := range have {
		for _, theirs := range peers {
			if !is && i < len(theirs) && theirs[i] {
				return true
			}
		}
	}
	return false
}

// mustFollow tells of a Pick of what is there, or is not a chunk, or that a peer has not, or of nothing where someone has what is missing.
func mustFollow(t *testing.T, have []bool, peers [][]bool, draw uint64) picked {
	t.Helper()
	chunk, peer, is := transfer.Pick(have, peers, draw)
	got := picked{chunk, peer, is}
	if !is {
		if got != nothing || someoneHas(have, peers) {
			t.Fatalf("of %v by %d, from %v nothing is picked: %v", have, draw, peers, got)
		}
		return got
	}
	if chunk < 0 || chunk >= len(have) || peer < 0 || peer >= len(peers) || have[chunk] || chunk >= len(peers[peer]) || !peers[peer][chunk] {
		t.Fatalf("of %v by %d, from %v: %v is picked", have, draw, peers, got)
	}
	return got
}

// P17.4: what is picked is missing, and a peer has it; as long as someone has what is missing, something is picked: of each list of few.
func TestPickIsMissingAndThere(t *testing.T) {
	each := everyList(4)
	for _, have := range each {
		for _, a := range each {
			for _, draw := range []uint64{0, 1, 2, 3, 1 << 32, 1<<33 - 1, 1<<64 - 1} {
				mustFollow(t, have, [][]bool{a}, draw)
				mustFollow(t, have, [][]bool{nil, a}, draw)
				mustFollow(t, have, [][]bool{a, have, bools("0010")}, draw)
			}
		}
	}
}

// P17.4: so it is of lists of all lengths, by draws of all kinds.
func TestPickIsMissingAndThereOfMany(t *testing.T) {
	k, is := uint64(174), 0
	for range 50000 {
		have := drawnList(&k, 70, 1+chance(&k, 10))
		peers := make([][]bool, chance(&k, 11))
		for i := range peers {
			peers[i] = drawnList(&k, 80, 1+chance(&k, 60))
		}
		if mustFollow(t, have, peers, drawnDraw(&k, len(have), len(peers))).is {
			is++
		}
	}
	if is < 10000 || is > 45000 {
		t.Errorf("%d are picked", is)
	}
}

// P17.4: each one who has what is missing is picked by some draw, and each chunk that is missing and there.
func TestEachIsPickedOnce(t *testing.T) {
	have, peers := bools("0100010"), lists("1110001", "", "00101", "0111111", "111100000")
	seen := map[picked]bool{}
	for chunk := range uint64(len(have)) {
		for peer := range uint64(len(peers)) {
			// A number that is both, modulo what each is gone round by: 2^32 is 4 modulo 7.
			seen[mustFollow(t, have, peers, peer<<32+(chunk+7-peer*4%7)%7)] = true
		}
	}
	for chunk := range have {
		for peer, theirs := range peers {
			if want := !have[chunk] && chunk < len(theirs) && theirs[chunk]; seen[picked{chunk, peer, true}] != want {
				t.Errorf("the chunk %d of the peer %d is picked: %v", chunk, peer, !want)
			}
		}
	}
}

// swarm are nodes that fetch an image from one another: what each one has of it, and its bytes.
type swarm struct {
	m     api.Manifest
	have  [][]bool
	bytes [][]byte
}

// begin is a swarm of so many nodes, of whom each one has some of an image's chunks.
func begin(t *testing.T, k *uint64, s shape, nodes, some int) swarm {
	m, chunks := build(t, text(s.size), s.chunk)
	w := swarm{m: m}
	for range nodes {
		b := make([]byte, s.size)
		for i := range chunks {
			if chance(k, some) == 0 {
				copy(b[i*s.chunk:], chunks[i])
			}
		}
		w.bytes = append(w.bytes, b)
		w.have = append(w.have, transfer.Find(m, b))
	}
	return w
}

// fetch lets a node fetch one chunk, that may be spoilt on its way, and tells whether it picked one.
func (w *swarm) fetch(t *testing.T, k *uint64, node int) bool {
	t.Helper()
	have := w.have[node]
	got := mustFollow(t, have, w.have, uint64(chance(k, 1<<31))<<33|uint64(chance(k, 1<<31)))
	if !got.is {
		return false
	}
	from, to := manifest.Part(w.m, got.chunk)
	b := slices.Clone(w.bytes[got.peer][from:to])
	if chance(k, 5) == 0 {
		b[chance(k, len(b))]++
		mustTake(t, "spoilt", w.m, have, got.chunk, b, api.ErrChunk)
		return true
	}
	missing := transfer.Missing(have)
	w.have[node] = mustTake(t, "its bytes", w.m, have, got.chunk, b, api.OK)
	copy(w.bytes[node][from:], b)
	mustCount(t, w.have[node], missing-1, missing == 1)
	return true
}

// P17.4, with P17.1 and P17.3: chunks go from node to node till nobody has what another one misses: then all have what someone had, and, if that was all, the image.
func TestSwarm(t *testing.T) {
	k, full, part := uint64(99), 0, 0
	for _, s := range shapes {
		for _, some := range []int{1, 2, 4, 9} {
			w := begin(t, &k, s, 5, some)
			any := all(len(w.m.Chunks), false)
			for _, have := range w.have {
				for i, is := range have {
					any[i] = any[i] || is
				}
			}
			for quiet := 0; quiet < 5; {
				quiet = 0
				for node := range 5 {
					if !w.fetch(t, &k, node) {
						quiet++
					}
				}
			}
			for node, have := range w.have {
				mustFind(t, "in the end", w.m, w.bytes[node], any)
				if !slices.Equal(have, any) || transfer.Done(have) != (manifest.Whole(w.m, w.bytes[node]) == api.OK) {
					t.Errorf("%v: the node %d has %v in the end, of %v", s, node, have, any)
				}
			}
			full, part = full+count([]bool{transfer.Done(any)}), part+count([]bool{!transfer.Done(any)})
		}
	}
	if full < 30 || part < 10 {
		t.Errorf("%d got all, %d not", full, part)
	}
}
