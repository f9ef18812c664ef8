package lattice_test

import (
	"math"
	"slices"
	"testing"

	"shipwright/api"
	"shipwright/lattice"
)

// refused are facts that may not be, of nine nodes, for a reason of each kind.
func refused() []api.Fact {
	cut := image(7)
	cut.Chunks = cut.Chunks[1:]
	l := []api.Fact{
		{}, {Epoch: 16}, {Kind: 4, Epoch: 16}, {Kind: -1, Epoch: 16}, {Kind: math.MaxInt, Epoch: 16}, {Kind: 0, Epoch: 35, Node: 3, Manifest: image(1)},
		healthy(16, -1), healthy(16, 9), abort(16, 9), abort(16, math.MaxInt), abort(16, math.MinInt),
		healthy(25, 0), abort(31, 0), published(25, 1),
		{Kind: api.FEpoch, Epoch: 35, Node: 2, Manifest: image(1)}, {Kind: api.FEpoch, Epoch: 35, Node: 3}, {Kind: api.FEpoch, Epoch: 35, Node: 3, Manifest: cut},
		{Kind: api.FHealthy, Epoch: 35, Node: 3, Manifest: image(1)}, {Kind: api.FAbort, Epoch: 35, Node: 3, Manifest: image(1)},
		{Kind: api.FHealthy, Epoch: 35, Node: 3, Manifest: api.Manifest{Whole: [32]byte{31: 1}}}, {Kind: api.FAbort, Epoch: 35, Node: 3, Manifest: api.Manifest{Size: 1}},
	}
	for _, epoch := range farOff {
		l = append(l, healthy(epoch, 0), abort(epoch, 0), published(epoch, 1))
	}
	return l
}

// P11.1: to none, a list that is nil and one without elements.
func TestAddToNone(t *testing.T) {
	for _, f := range several() {
		for _, none := range [][]api.Fact{nil, {}, several()[:0]} {
			mustAdd(t, 9, none, f, []api.Fact{f}, api.OK)
		}
	}
}

// P11.1: ahead of all, between two, and behind all, where just the Epoch, the Kind or the Node tells.
func TestAddPlaces(t *testing.T) {
	for _, l := range [][]api.Fact{
		{healthy(16, 5), healthy(17, 5), healthy(32, 5)},
		{abort(16, 5), healthy(17, 4), published(18, 3)},
		{healthy(1<<32-16, 5), healthy(1<<32, 5), healthy(1<<32+16, 5)},
		{healthy(top-16, 5), healthy(top-8, 5), healthy(top, 5)},
		{published(21, 1), healthy(21, 5), abort(21, 5)},
		{published(21, 1), healthy(21, 8), abort(21, 0)},
		{healthy(16, 0), healthy(16, 4), healthy(16, 8)},
		{abort(16, 0), abort(16, 1), abort(16, 2)},
	} {
		for i, f := range l {
			mustAdd(t, 9, slices.Delete(slices.Clone(l), i, i+1), f, l, api.OK)
		}
	}
}

// P11.1: each of many facts, taken out and added, stands where it stood.
func TestAddEach(t *testing.T) {
	l := several()
	for i, f := range l {
		mustAdd(t, 9, slices.Delete(slices.Clone(l), i, i+1), f, l, api.OK)
	}
}

// P11.1: one behind the other, ahead and backwards and as if by chance, the facts rise all the way.
func TestAddOneByOne(t *testing.T) {
	backwards := several()
	slices.Reverse(backwards)
	shuffled := several()
	k := uint64(3)
	for i := range shuffled {
		j := i + draw(&k, len(shuffled)-i)
		shuffled[i], shuffled[j] = shuffled[j], shuffled[i]
	}
	for _, l := range [][]api.Fact{several(), backwards, shuffled} {
		var all []api.Fact
		for i, f := range l {
			want := copied(l[:i+1])
			slices.SortFunc(want, order)
			mustAdd(t, 9, all, f, want, api.OK)
			all, _ = lattice.Add(9, all, f)
		}
		if !sameList(all, several()) {
			t.Error(told(all))
		}
	}
}

// P11.1: one that is there already changes nothing.
func TestAddAgain(t *testing.T) {
	l := several()
	for _, f := range l {
		mustAdd(t, 9, l, f, l, api.OK)
		mustAdd(t, 9, []api.Fact{f}, f, []api.Fact{f}, api.OK)
	}
}

// P11.1: an epoch that is there keeps its first manifest.
func TestAddAnotherManifest(t *testing.T) {
	l := several()
	for _, f := range l {
		if f.Kind != api.FEpoch {
			continue
		}
		for k := 100; k < 140; k++ {
			mustAdd(t, 9, l, published(f.Epoch, k), l, api.OK)
		}
	}
	other := published(16, 2)
	other.Manifest.Whole[0]++
	mustAdd(t, 9, []api.Fact{published(16, 2)}, other, []api.Fact{published(16, 2)}, api.OK)
	other = published(16, 2)
	other.Manifest.Chunks[1][31]++
	mustAdd(t, 9, []api.Fact{published(16, 2)}, other, []api.Fact{published(16, 2)}, api.OK)
}

// P11.1: one that may not be is refused, and the answer is the list all the same.
func TestAddNoFact(t *testing.T) {
	for _, f := range refused() {
		for _, l := range [][]api.Fact{nil, {}, {healthy(16, 0)}, several()} {
			mustAdd(t, 9, l, f, l, api.ErrFact)
		}
	}
}

// P11.1: each number of nodes, and those that may not be.
func TestAddNodes(t *testing.T) {
	l := []api.Fact{published(16, 1), abort(32, 0)}
	for nodes := 1; nodes <= 9; nodes++ {
		for node := range 9 {
			for _, f := range []api.Fact{healthy(16, node), abort(16, node), published(16+int64(node), 2), healthy(16+int64(node), 0)} {
				switch {
				case node >= nodes:
					mustAdd(t, nodes, l, f, l, api.ErrFact)
				case lattice.Has(l, f.Kind, f.Epoch, f.Node):
					mustAdd(t, nodes, l, f, l, api.OK)
				default:
					mustAdd(t, nodes, l, f, []api.Fact{l[0], f, l[1]}, api.OK)
				}
			}
		}
	}
	for _, nodes := range append([]int{0}, far...) {
		for _, f := range append(several(), l...) {
			mustAdd(t, nodes, l, f, l, api.ErrFact)
			mustAdd(t, nodes, nil, f, nil, api.ErrFact)
		}
	}
}

// P11.1: one that may not be, and is there all the same, is refused.
func TestAddNoFactThatIsThere(t *testing.T) {
	for _, f := range refused() {
		mustAdd(t, 9, []api.Fact{f}, f, []api.Fact{f}, api.ErrFact)
	}
	for _, f := range several() {
		mustAdd(t, 0, []api.Fact{f}, f, []api.Fact{f}, api.ErrFact)
		if f.Node == 8 {
			mustAdd(t, 8, several(), f, several(), api.ErrFact)
		}
	}
	bad := published(16, 1)
	bad.Manifest.Size = 0
	mustAdd(t, 9, several(), bad, several(), api.ErrFact)
	bad = healthy(16, 0)
	bad.Manifest.Chunk = 1
	mustAdd(t, 9, several(), bad, several(), api.ErrFact)
}

// ahead, between and behind are facts that filled has not: where they belong in it.
var ahead, between, behind = published(16, 1), abort(163, 4), healthy(top, 8)

// P11.1: one less than the most takes one more, wherever it belongs.
func TestAddTheLast(t *testing.T) {
	for _, f := range []api.Fact{ahead, between, behind} {
		l := filled(most - 1)
		want := append(filled(most-1), f)
		slices.SortFunc(want, order)
		mustAdd(t, 9, l, f, want, api.OK)
	}
	mustAdd(t, 9, filled(most-1), filled(most)[most-1], filled(most), api.OK)
}

// P11.1: the most take no more, but one that is there is no harm, and one that may not be is refused for that.
func TestAddMany(t *testing.T) {
	l := filled(most)
	for _, f := range []api.Fact{ahead, between, behind} {
		mustAdd(t, 9, l, f, l, api.ErrMany)
	}
	for _, f := range l {
		mustAdd(t, 9, l, f, l, api.OK)
	}
	mustAdd(t, 9, l, published(160, 99), l, api.OK)
	for _, f := range refused() {
		mustAdd(t, 9, l, f, l, api.ErrFact)
	}
	mustAdd(t, 8, l, healthy(16, 8), l, api.ErrFact)
	mustAdd(t, 0, l, l[0], l, api.ErrFact)
}

// P11.1: so do more than the most, that nobody added.
func TestAddMoreThanMany(t *testing.T) {
	for _, many := range []int{most + 1, most + 50} {
		l := filled(many)
		mustAdd(t, 9, l, ahead, l, api.ErrMany)
		mustAdd(t, 9, l, l[many-1], l, api.OK)
		mustAdd(t, 9, l, api.Fact{}, l, api.ErrFact)
	}
}
