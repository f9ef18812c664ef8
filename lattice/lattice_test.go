package lattice_test

import (
	"math"
	"slices"
	"testing"

	"shipwright/api"
	"shipwright/lattice"
	"shipwright/manifest"
)

// top is the greatest epoch.
const top = int64(1) << 40

// most is how many facts there may be.
const most = 200

// far are numbers that no majority, kind or node has.
var far = []int{-1, -2, -16, 10, 16, 255, 256, 1 << 32, 1<<32 + 1, -1 << 32, math.MaxInt, math.MaxInt - 1, math.MinInt, math.MinInt + 1}

// farOff are numbers that no epoch has.
var farOff = []int64{0, 1, 15, -1, -16, -35, top + 1, top + 16, 2 * top, math.MaxInt64, math.MaxInt64 - 15, math.MinInt64, math.MinInt64 + 1, math.MinInt64 + 32}

// draw is the next one of numbers that look like chance.
func draw(k *uint64, below int) int {
	*k = *k*6364136223846793005 + 1442695040888963407
	return int(*k >> 33 % uint64(below))
}

// image is the manifest of the k-th of some images, of one chunk to thirteen.
func image(k int) api.Manifest {
	text := make([]byte, 10+k%40)
	for i := range text {
		text[i] = byte(i*7 + k)
	}
	m, err := manifest.Build(text, 4)
	if err != api.OK {
		panic(err)
	}
	return m
}

// published says that an epoch is the k-th image.
func published(epoch int64, k int) api.Fact {
	return api.Fact{Kind: api.FEpoch, Epoch: epoch, Node: int(epoch % 16), Manifest: image(k)}
}

func healthy(epoch int64, node int) api.Fact {
	return api.Fact{Kind: api.FHealthy, Epoch: epoch, Node: node}
}

func abort(epoch int64, node int) api.Fact {
	return api.Fact{Kind: api.FAbort, Epoch: epoch, Node: node}
}

// several are facts that may be, of each kind, that rise, at the limits of what they tell.
func several() []api.Fact {
	var l []api.Fact
	for i, epoch := range []int64{16, 17, 24, 35, 36, 1 << 32, 1<<32 + 1, top - 8, top} {
		if i != 4 {
			l = append(l, published(epoch, i))
		}
		for _, node := range []int{0, 3, 8} {
			l = append(l, healthy(epoch, node))
		}
		for _, node := range []int{0, 1, 2, 7, 8} {
			l = append(l, abort(epoch, node))
		}
	}
	return l
}

// filled are so many facts, that rise: of each epoch its manifest, and what nine nodes say of it.
func filled(many int) []api.Fact {
	var l []api.Fact
	for epoch := int64(160); len(l) < many; epoch += 16 {
		l = append(l, published(epoch, int(epoch/16)))
		for node := range 9 {
			l = append(l, healthy(epoch, node))
		}
		for node := range 9 {
			l = append(l, abort(epoch, node))
		}
	}
	return l[:many]
}

func sameManifest(a, b api.Manifest) bool {
	return a.Size == b.Size && a.Chunk == b.Chunk && a.Whole == b.Whole && slices.Equal(a.Chunks, b.Chunks)
}

func sameFact(a, b api.Fact) bool {
	return a.Kind == b.Kind && a.Epoch == b.Epoch && a.Node == b.Node && sameManifest(a.Manifest, b.Manifest)
}

func sameList(a, b []api.Fact) bool {
	return slices.EqualFunc(a, b, sameFact)
}

// copied are facts in memory of their own.
func copied(l []api.Fact) []api.Fact {
	own := make([]api.Fact, len(l))
	for i, f := range l {
		f.Manifest.Chunks = append([][32]byte(nil), f.Manifest.Chunks...)
		own[i] = f
	}
	return own
}

// order says which of two facts comes first: by Epoch, then by Kind, then by Node.
func order(a, b api.Fact) int {
	return slices.Compare([]int64{a.Epoch, int64(a.Kind), int64(a.Node)}, []int64{b.Epoch, int64(b.Kind), int64(b.Node)})
}

// rises tells whether each fact is less than the next one.
func rises(l []api.Fact) bool {
	for i := 1; i < len(l); i++ {
		if order(l[i-1], l[i]) >= 0 {
			return false
		}
	}
	return true
}

// told is a list, number by number, in a short form.
func told(l []api.Fact) [][4]int64 {
	var t [][4]int64
	for _, f := range l {
		t = append(t, [4]int64{f.Epoch, int64(f.Kind), int64(f.Node), int64(f.Manifest.Size)})
	}
	return t
}

// mustAdd tells of an Add that answers something else, or that changes what it is handed in.
func mustAdd(t *testing.T, nodes int, l []api.Fact, f api.Fact, want []api.Fact, wantErr api.Errno) {
	t.Helper()
	was, one := copied(l), copied([]api.Fact{f})
	got, err := lattice.Add(nodes, l, f)
	if err != wantErr || !sameList(got, want) {
		t.Errorf("Add(%d) of %d, %d, %d to %d facts: %v, %d; want %v, %d", nodes, f.Kind, f.Epoch, f.Node, len(l), told(got), err, told(want), wantErr)
	}
	if !sameList(l, was) || !sameFact(f, one[0]) {
		t.Errorf("Add(%d) of %d, %d, %d to %d facts changed what it was handed in", nodes, f.Kind, f.Epoch, f.Node, len(l))
	}
}

// mustMerge tells of a Merge that answers something else, or that changes what it is handed in.
func mustMerge(t *testing.T, nodes int, a, b, want []api.Fact) {
	t.Helper()
	wasA, wasB := copied(a), copied(b)
	if got := lattice.Merge(nodes, a, b); !sameList(got, want) {
		t.Errorf("Merge(%d) of %d and %d facts: %v; want %v", nodes, len(a), len(b), told(got), told(want))
	}
	if !sameList(a, wasA) || !sameList(b, wasB) {
		t.Errorf("Merge(%d) of %d and %d facts changed what it was handed in", nodes, len(a), len(b))
	}
}

// P11.1, P11.2: the chapter's examples.
func TestExamples(t *testing.T) {
	f := healthy(16, 1)
	one, err := lattice.Add(3, nil, f)
	if err != api.OK || !sameList(one, []api.Fact{f}) {
		t.Error(told(one), err)
	}
	if again, err := lattice.Add(3, one, f); err != api.OK || !sameList(again, []api.Fact{f}) {
		t.Error(told(again), err)
	}
	l := []api.Fact{published(16, 1), published(33, 2), abort(33, 0), abort(33, 2)}
	if e := lattice.Best(l, 2); e != 16 {
		t.Error(e)
	}
}

// P11.1: the numbers that the chapter names.
func TestConstants(t *testing.T) {
	if api.MaxFacts != 200 || api.ErrFact != 100 || api.ErrMany != 110 {
		t.Error(api.MaxFacts, int(api.ErrFact), int(api.ErrMany))
	}
}

// What the other tests go by: their lists rise.
func TestListsRise(t *testing.T) {
	for _, l := range [][]api.Fact{several(), filled(most), filled(most + 50)} {
		if !rises(l) {
			t.Error(told(l))
		}
	}
}
