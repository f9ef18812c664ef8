package lattice_test

import (
	"math"
	"slices"
	"testing"

	"shipwright/api"
	"shipwright/lattice"
)

// handMade are lists that nobody added: they do not rise, have one twice, or members that may not be.
func handMade() [][]api.Fact {
	backwards := several()
	slices.Reverse(backwards)
	edges := []int64{math.MinInt64, math.MinInt64 + 1, -1 << 32, -1, 0, 1, 15, 16, 1 << 32, top, top + 1, math.MaxInt64 - 1, math.MaxInt64}
	var odd []api.Fact
	for _, epoch := range edges {
		for _, n := range edges {
			odd = append(odd, api.Fact{Kind: int(n), Epoch: epoch, Node: int(epoch)}, api.Fact{Kind: api.FEpoch, Epoch: epoch, Node: int(n)}, api.Fact{Kind: api.FAbort, Epoch: epoch, Node: int(n)})
		}
	}
	return [][]api.Fact{
		backwards, slices.Concat(several(), several()), slices.Concat(backwards, several()), refused(), odd, make([]api.Fact, 300),
		{healthy(16, 1), healthy(16, 1)}, {published(16, 1), published(16, 2), published(16, 1)}, {abort(35, 2), abort(35, 1), abort(35, 2), published(35, 1), abort(16, 2)},
		{{Kind: api.FEpoch, Epoch: 16, Manifest: api.Manifest{Size: -1, Chunk: math.MinInt, Chunks: make([][32]byte, 300)}}},
	}
}

// R1, R5: each call has some answer, and twice the same one, and what it is handed in stays as it was.
func TestHandMadeLists(t *testing.T) {
	facts := slices.Concat(several()[:12], refused())
	for i, l := range handMade() {
		was := copied(l)
		for _, n := range append([]int{0, 1, 2, 3, 9}, far...) {
			for _, f := range facts {
				a, errA := lattice.Add(n, l, f)
				b, errB := lattice.Add(n, l, f)
				if errA != errB || !sameList(a, b) {
					t.Errorf("%d: Add(%d) of %d, %d, %d: two answers", i, n, f.Kind, f.Epoch, f.Node)
				}
				if lattice.Aborted(l, f.Epoch, n) != lattice.Aborted(l, f.Epoch, n) || lattice.Has(l, n, f.Epoch, f.Node) != lattice.Has(l, n, f.Epoch, f.Node) {
					t.Errorf("%d: Aborted or Has of %d: two answers", i, f.Epoch)
				}
			}
			if lattice.Best(l, n) != lattice.Best(l, n) || lattice.Next(l) != lattice.Next(l) {
				t.Errorf("%d: Best or Next: two answers", i)
			}
		}
		if !sameList(l, was) {
			t.Errorf("%d: what was handed in is another thing by now", i)
		}
	}
}

// R1, R4: two of them are merged, and the answer is its own.
func TestHandMadeListsMerged(t *testing.T) {
	for i, a := range handMade() {
		for k, b := range handMade() {
			wasA, wasB := copied(a), copied(b)
			for _, nodes := range []int{-1, 0, 1, 3, 9, 10, math.MaxInt} {
				x, y := lattice.Merge(nodes, a, b), lattice.Merge(nodes, a, b)
				if !sameList(x, y) {
					t.Errorf("%d, %d: Merge(%d): two answers", i, k, nodes)
				}
				spoil(x)
				apart(t, y)
			}
			if !sameList(a, wasA) || !sameList(b, wasB) {
				t.Errorf("%d, %d: what was handed in is another thing by now", i, k)
			}
		}
	}
}

// R1: of whatever numbers a list has, its members are found, and a manifest is found as it is.
func TestHandMadeListsAsked(t *testing.T) {
	for i, l := range handMade() {
		for _, f := range l {
			mustHas(t, l, f.Kind, f.Epoch, f.Node, true)
			if !slices.Contains(lattice.Who(l, f.Kind, f.Epoch), f.Node) {
				t.Errorf("%d: Who(%d, %d) has not %d", i, f.Kind, f.Epoch, f.Node)
			}
			m, is := lattice.Manifest(l, f.Epoch)
			if is != (len(lattice.Who(l, api.FEpoch, f.Epoch)) > 0) || f.Kind == api.FEpoch && !is || !is && !sameManifest(m, api.Manifest{}) {
				t.Errorf("%d: Manifest(%d): %d bytes, %v", i, f.Epoch, m.Size, is)
			}
		}
	}
}

// R1: far more facts than may be are gone through in good time, in whatever order they are.
func TestVeryLongLists(t *testing.T) {
	const many = 100000
	rising := make([]api.Fact, many)
	for i := range rising {
		rising[i] = api.Fact{Kind: api.FEpoch, Epoch: 16 * int64(i+1)}
	}
	falling := slices.Clone(rising)
	slices.Reverse(falling)
	for _, l := range [][]api.Fact{rising, falling} {
		mustNext(t, l, many+1)
		mustWho(t, l, api.FEpoch, 16*many, 0)
		for majority, want := range []int64{0, 16 * many} {
			if e := lattice.Best(l, majority); e != want {
				t.Errorf("Best(%d): %d", majority, e)
			}
		}
		if x := lattice.Merge(9, l, l); !sameList(x, l) {
			t.Errorf("%d facts", len(x))
		}
		said := slices.Clone(l)
		for i := range said {
			said[i].Kind = api.FHealthy
		}
		if x := lattice.Merge(9, said, said); !sameList(x, said) {
			t.Errorf("%d facts", len(x))
		}
		if x := lattice.Merge(9, nil, said); len(x) != most || !rises(x) {
			t.Errorf("%d facts", len(x))
		}
		if x := lattice.Merge(9, nil, l); len(x) != 0 {
			t.Errorf("%d facts, whose manifests may not be", len(x))
		}
	}
}
