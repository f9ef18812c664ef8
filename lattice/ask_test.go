package lattice_test

import (
	"math"
	"slices"
	"testing"

	"shipwright/api"
	"shipwright/lattice"
)

// mustHas tells of a Has that answers something else.
func mustHas(t *testing.T, l []api.Fact, kind int, epoch int64, node int, want bool) {
	t.Helper()
	if is := lattice.Has(l, kind, epoch, node); is != want {
		t.Errorf("Has(%d, %d, %d) of %d facts: %v", kind, epoch, node, len(l), is)
	}
}

// mustWho tells of a Who that answers something else.
func mustWho(t *testing.T, l []api.Fact, kind int, epoch int64, want ...int) {
	t.Helper()
	if nodes := lattice.Who(l, kind, epoch); !slices.Equal(nodes, want) {
		t.Errorf("Who(%d, %d) of %d facts: %v, want %v", kind, epoch, len(l), nodes, want)
	}
}

// mustBeManifest tells of an epoch that has another manifest; mustBeNone of one that has any.
func mustBeManifest(t *testing.T, l []api.Fact, epoch int64, want api.Manifest) {
	t.Helper()
	if m, is := lattice.Manifest(l, epoch); !is || !sameManifest(m, want) {
		t.Errorf("Manifest(%d) of %d facts: %d bytes, %v", epoch, len(l), m.Size, is)
	}
}

func mustBeNone(t *testing.T, l []api.Fact, epoch int64) {
	t.Helper()
	if m, is := lattice.Manifest(l, epoch); is || !sameManifest(m, api.Manifest{}) {
		t.Errorf("Manifest(%d) of %d facts: %d bytes, %v", epoch, len(l), m.Size, is)
	}
}

// mustAborted tells of an Aborted that answers something else.
func mustAborted(t *testing.T, l []api.Fact, epoch int64, majority int, want bool) {
	t.Helper()
	if is := lattice.Aborted(l, epoch, majority); is != want {
		t.Errorf("Aborted(%d, %d) of %d facts: %v", epoch, majority, len(l), is)
	}
}

// P11.2: each fact is there, and with its kind, epoch or node off by one it is as the list says.
func TestHas(t *testing.T) {
	l := several()
	there := map[[3]int64]int{}
	for _, f := range l {
		there[[3]int64{int64(f.Kind), f.Epoch, int64(f.Node)}]++
	}
	check := func(kind int, epoch int64, node int) {
		t.Helper()
		mustHas(t, l, kind, epoch, node, there[[3]int64{int64(kind), epoch, int64(node)}] > 0)
	}
	for _, f := range l {
		mustHas(t, l, f.Kind, f.Epoch, f.Node, true)
		for by := -1; by <= 1; by++ {
			check(f.Kind+by, f.Epoch, f.Node)
			check(f.Kind, f.Epoch+int64(by), f.Node)
			check(f.Kind, f.Epoch, f.Node+by)
			check(f.Kind+by, f.Epoch+int64(by), f.Node)
		}
	}
}

// P11.2: one fact alone is there, and no other one, by any one of its numbers.
func TestHasOne(t *testing.T) {
	for _, f := range []api.Fact{published(35, 1), healthy(35, 4), abort(top-8, 8), healthy(1<<32, 0)} {
		l := []api.Fact{f}
		mustHas(t, l, f.Kind, f.Epoch, f.Node, true)
		for _, by := range []int{-2, -1, 1, 2, 16, 256, 1 << 32, -1 << 32, math.MinInt} {
			mustHas(t, l, f.Kind+by, f.Epoch, f.Node, false)
			mustHas(t, l, f.Kind, f.Epoch+int64(by), f.Node, false)
			mustHas(t, l, f.Kind, f.Epoch, f.Node+by, false)
		}
	}
	// Each of its numbers is there, but no fact has all three.
	l := []api.Fact{healthy(16, 1), healthy(32, 2), abort(16, 2)}
	mustHas(t, l, api.FHealthy, 16, 2, false)
	mustHas(t, l, api.FAbort, 32, 2, false)
	mustHas(t, l, api.FAbort, 16, 1, false)
	mustHas(t, l, api.FAbort, 16, 2, true)
}

// P11.2: of none, and of numbers that no fact has.
func TestHasNone(t *testing.T) {
	for _, f := range several() {
		mustHas(t, nil, f.Kind, f.Epoch, f.Node, false)
		mustHas(t, []api.Fact{}, f.Kind, f.Epoch, f.Node, false)
		mustHas(t, several()[:0], f.Kind, f.Epoch, f.Node, false)
	}
	mustHas(t, nil, 0, 0, 0, false)
	for _, n := range append([]int{0, 4}, far...) {
		mustHas(t, several(), n, 16, 0, false)
		if n != 0 {
			mustHas(t, several(), api.FHealthy, 16, n, n == 8)
		}
	}
	for _, epoch := range farOff {
		mustHas(t, several(), api.FHealthy, epoch, 0, false)
	}
}

// P11.2: one, some and all nine nodes, in order.
func TestWho(t *testing.T) {
	l := []api.Fact{published(16, 1), healthy(16, 7), abort(16, 2), abort(16, 3), abort(16, 8), published(17, 2)}
	for node := range 9 {
		l = append(l, healthy(17, node))
	}
	for node := range 9 {
		l = append(l, abort(18, node))
	}
	l = append(l, published(40, 3), abort(40, 0))
	mustWho(t, l, api.FEpoch, 16, 0)
	mustWho(t, l, api.FHealthy, 16, 7)
	mustWho(t, l, api.FAbort, 16, 2, 3, 8)
	mustWho(t, l, api.FEpoch, 17, 1)
	mustWho(t, l, api.FHealthy, 17, 0, 1, 2, 3, 4, 5, 6, 7, 8)
	mustWho(t, l, api.FAbort, 17)
	mustWho(t, l, api.FEpoch, 18)
	mustWho(t, l, api.FHealthy, 18)
	mustWho(t, l, api.FAbort, 18, 0, 1, 2, 3, 4, 5, 6, 7, 8)
	mustWho(t, l, api.FEpoch, 40, 8)
	mustWho(t, l, api.FHealthy, 40)
	mustWho(t, l, api.FAbort, 40, 0)
}

// P11.2: a kind or an epoch that is not there, and none.
func TestWhoNobody(t *testing.T) {
	l := several()
	for _, kind := range append([]int{0, 4}, far...) {
		mustWho(t, l, kind, 16)
		mustWho(t, nil, kind, 16)
	}
	for _, epoch := range append([]int64{18, 32, 34, 1<<32 - 1, 1<<32 + 2, top - 1}, farOff...) {
		for kind := api.FEpoch; kind <= api.FAbort; kind++ {
			mustWho(t, l, kind, epoch)
			mustWho(t, []api.Fact{}, kind, epoch)
		}
	}
	mustWho(t, l, api.FEpoch, 36)
}

// P11.2: the same ones in whatever order they were added.
func TestWhoInOrder(t *testing.T) {
	var l []api.Fact
	for _, node := range []int{5, 0, 8, 3, 1, 7, 2, 6, 4} {
		l, _ = lattice.Add(9, l, abort(35, node))
		l, _ = lattice.Add(9, l, healthy(35, 8-node))
		l, _ = lattice.Add(9, l, abort(19, node))
	}
	for kind := api.FHealthy; kind <= api.FAbort; kind++ {
		mustWho(t, l, kind, 35, 0, 1, 2, 3, 4, 5, 6, 7, 8)
	}
}

// P11.2: each epoch has its own manifest, ahead of others, between and behind.
func TestManifest(t *testing.T) {
	l := several()
	for _, f := range l {
		if f.Kind == api.FEpoch {
			mustBeManifest(t, l, f.Epoch, f.Manifest)
			mustBeManifest(t, []api.Fact{f}, f.Epoch, f.Manifest)
			mustBeManifest(t, []api.Fact{healthy(16, 0), f, abort(f.Epoch, 3)}, f.Epoch, f.Manifest)
		}
	}
	// The greatest one.
	m := api.Manifest{Size: 65536, Chunk: 1024, Chunks: make([][32]byte, 64), Whole: [32]byte{1}}
	m.Chunks[63][31] = 9
	mustBeManifest(t, []api.Fact{{Kind: api.FEpoch, Epoch: 24, Node: 8, Manifest: m}}, 24, m)
}

// P11.2: none of an epoch that was not published, whatever else is said of it.
func TestManifestNone(t *testing.T) {
	l := several()
	for _, epoch := range append([]int64{18, 20, 32, 36, 48, 1<<32 + 2, top - 1}, farOff...) {
		mustBeNone(t, l, epoch)
		mustBeNone(t, nil, epoch)
		mustBeNone(t, []api.Fact{}, epoch)
		mustBeNone(t, []api.Fact{healthy(epoch, 0), abort(epoch, 0)}, epoch)
	}
	mustBeNone(t, nil, 16)
	mustBeNone(t, several()[:0], 16)
}

// P11.2: of two of an epoch, that nobody added, the first one.
func TestManifestFirst(t *testing.T) {
	one, other := published(35, 1), published(35, 2)
	other.Node = 4
	mustBeManifest(t, []api.Fact{one, other}, 35, one.Manifest)
	mustBeManifest(t, []api.Fact{other, one}, 35, other.Manifest)
}

// P11.2: just as many as the majority are enough, one less is not.
func TestAborted(t *testing.T) {
	for many := 0; many <= 9; many++ {
		l := []api.Fact{published(35, 1)}
		for node := range 9 {
			l = append(l, healthy(35, node))
		}
		for node := 9 - many; node < 9; node++ {
			l = append(l, abort(35, node))
		}
		for _, others := range [][]api.Fact{nil, {abort(51, 0), abort(51, 1), abort(51, 2), abort(51, 3), abort(51, 4)}} {
			for majority := -3; majority <= 12; majority++ {
				mustAborted(t, append(slices.Clone(l), others...), 35, majority, many >= majority)
			}
			mustAborted(t, append(slices.Clone(l), others...), 35, math.MaxInt, false)
			mustAborted(t, append(slices.Clone(l), others...), 35, math.MinInt, true)
		}
	}
}

// P11.2: an epoch of which nobody says anything, and none at all.
func TestAbortedNone(t *testing.T) {
	for _, l := range [][]api.Fact{nil, {}, {healthy(16, 0), healthy(16, 1), healthy(16, 2)}, {published(16, 1)}, {abort(17, 0), abort(32, 0), abort(1<<32+16, 0)}} {
		for _, majority := range []int{1, 2, 5, 9, 10, math.MaxInt} {
			mustAborted(t, l, 16, majority, false)
		}
		for _, majority := range []int{0, -1, -9, math.MinInt, math.MinInt + 1} {
			mustAborted(t, l, 16, majority, true)
		}
	}
	for _, epoch := range farOff {
		mustAborted(t, several(), epoch, 1, false)
		mustAborted(t, several(), epoch, 0, true)
	}
}
