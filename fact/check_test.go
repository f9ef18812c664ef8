package fact_test

import (
	"math"
	"slices"
	"testing"

	"shipwright/api"
	"shipwright/fact"
)

// far are numbers of nodes, and of kinds, that none has.
var far = []int{-1, -2, -9, -16, 16, 255, 256, 257, 1 << 32, 1<<32 + 1, 1<<32 + 3, -1 << 32, high, high + 1, high + 2, math.MaxInt, math.MaxInt - 1, math.MinInt, math.MinInt + 1, math.MinInt + 3}

// noManifests may not be, each for a reason of its own.
func noManifests(t *testing.T) []api.Manifest {
	m := imageOf(t, 10, 4)
	with := func(size, chunk, chunks int) api.Manifest {
		return api.Manifest{Size: size, Chunk: chunk, Chunks: slices.Grow(slices.Clone(m.Chunks), 100)[:chunks], Whole: m.Whole}
	}
	l := []api.Manifest{{}, {Chunks: [][32]byte{}}}
	for _, c := range [][3]int{
		{10, 4, 2}, {10, 4, 4}, {10, 4, 0}, {10, 4, 100}, {0, 4, 0}, {0, 4, 1}, {-1, 4, 3}, {-10, 4, 3}, {65537, 4096, 17}, {math.MaxInt, 4, 3}, {math.MinInt, 4, 3},
		{10, 0, 3}, {10, 0, 0}, {10, -4, 3}, {10, 4097, 1}, {10, math.MaxInt, 1}, {10, math.MinInt, 3}, {65, 1, 65}, {65, 1, 64}, {65536, 1023, 65},
	} {
		l = append(l, with(c[0], c[1], c[2]))
	}
	return l
}

// notEmpty are manifests of which just one part is not empty, in turn.
func notEmpty() []api.Manifest {
	l := []api.Manifest{
		{Size: 1}, {Size: -1}, {Size: 65536}, {Size: math.MaxInt}, {Size: math.MinInt}, {Size: high},
		{Chunk: 1}, {Chunk: -1}, {Chunk: 4096}, {Chunk: math.MaxInt}, {Chunk: math.MinInt}, {Chunk: high},
		{Chunks: make([][32]byte, 1)}, {Chunks: make([][32]byte, 64)}, {Chunks: make([][32]byte, 65)}, {Chunks: [][32]byte{{5}}},
	}
	for i := range 32 {
		for _, by := range []byte{1, 128, 255} {
			m := api.Manifest{}
			m.Whole[i] = by
			l = append(l, m)
		}
	}
	return l
}

// mustBe tells of a fact that is not checked as it must be.
func mustBe(t *testing.T, nodes int, f api.Fact, want api.Errno) {
	t.Helper()
	if err := fact.Check(nodes, f); err != want {
		m := f.Manifest
		t.Errorf("of %d nodes: %d, %d, %d, %d bytes in %d chunks of %d: %d, want %d", nodes, f.Kind, f.Epoch, f.Node, m.Size, len(m.Chunks), m.Chunk, err, want)
	}
}

// P10.2: facts that may be, of each kind.
func TestFactsThatMayBe(t *testing.T) {
	for _, f := range several(t) {
		mustBe(t, 9, f, api.OK)
	}
}

// P10.2: how many nodes there are.
func TestCheckNodes(t *testing.T) {
	facts := []api.Fact{published(16, imageOf(t, 3, 2)), healthy(16, 0), abort(16, 0)}
	for _, f := range facts {
		for nodes := 1; nodes <= 9; nodes++ {
			mustBe(t, nodes, f, api.OK)
		}
		for _, nodes := range append(far, 0, 10, 11) {
			mustBe(t, nodes, f, api.ErrFact)
		}
	}
}

// P10.2: who says it: each node that there is, and no other one.
func TestCheckNode(t *testing.T) {
	for nodes := 1; nodes <= 9; nodes++ {
		for node := range nodes {
			mustBe(t, nodes, healthy(16, node), api.OK)
			mustBe(t, nodes, abort(16, node), api.OK)
		}
		for _, node := range append(far, nodes, nodes+1, nodes+16, 9, 10, 15) {
			mustBe(t, nodes, healthy(16, node), api.ErrFact)
			mustBe(t, nodes, abort(16, node), api.ErrFact)
			f := published(16, imageOf(t, 3, 2))
			f.Node = node
			mustBe(t, nodes, f, api.ErrFact)
		}
	}
}

// P10.2: which epoch it is of: from 16 on, up to MaxEpoch, of a node that there is.
func TestCheckEpoch(t *testing.T) {
	m := imageOf(t, 3, 2)
	check := func(nodes int, epoch int64, want api.Errno) {
		t.Helper()
		f := published(epoch, m)
		mustBe(t, nodes, f, want)
		mustBe(t, nodes, healthy(epoch, 0), want)
		mustBe(t, nodes, abort(epoch, nodes-1), want)
	}
	for nodes := 1; nodes <= 9; nodes++ {
		for _, first := range []int64{16, 32, 160, 1 << 32, top - 16} {
			for rest := range 16 {
				want := api.OK
				if rest >= nodes {
					want = api.ErrFact
				}
				check(nodes, first+int64(rest), want)
			}
		}
		check(nodes, top, api.OK)
		for _, epoch := range []int64{
			15, 14, 8, 1, 0, -1, -15, -16, -32, -35, -top, top + 1, top + 16, 2 * top, high, high + 1, high + 16, -high,
			math.MaxInt64, math.MaxInt64 - 15, math.MinInt64, math.MinInt64 + 1, math.MinInt64 + 16, math.MinInt64 + 32,
		} {
			check(nodes, epoch, api.ErrFact)
		}
	}
}

// P10.2: kinds that are none, with a manifest that may be and without one.
func TestCheckKind(t *testing.T) {
	for _, m := range append(images(t), api.Manifest{}, api.Manifest{Chunks: [][32]byte{}}) {
		for _, kind := range append(far, 0, 4, 5) {
			mustBe(t, 9, api.Fact{Kind: kind, Epoch: 16, Manifest: m}, api.ErrFact)
			mustBe(t, 9, api.Fact{Kind: kind, Epoch: 35, Node: 3, Manifest: m}, api.ErrFact)
		}
	}
}

// P10.2: who published an epoch says so, and nobody else.
func TestCheckWhoPublished(t *testing.T) {
	m := imageOf(t, 10, 4)
	for publisher := range 9 {
		for node := range 9 {
			f := api.Fact{Kind: api.FEpoch, Epoch: 160 + int64(publisher), Node: node, Manifest: m}
			want := api.OK
			if node != publisher {
				want = api.ErrFact
			}
			mustBe(t, 9, f, want)
			mustBe(t, 9, healthy(f.Epoch, node), api.OK)
			mustBe(t, 9, abort(f.Epoch, node), api.OK)
		}
	}
}

// P10.2: an epoch has a manifest that may be.
func TestCheckManifestOfEpoch(t *testing.T) {
	for _, m := range images(t) {
		mustBe(t, 4, published(35, m), api.OK)
	}
	for _, m := range append(noManifests(t), notEmpty()...) {
		mustBe(t, 4, published(35, m), api.ErrFact)
	}
}

// P10.2: another fact has an empty one, its list of chunks nil or without elements.
func TestCheckManifestOfOthers(t *testing.T) {
	for _, f := range []api.Fact{healthy(35, 1), abort(35, 1), healthy(35, 3), abort(35, 3)} {
		mustBe(t, 4, f, api.OK)
		for _, chunks := range [][][32]byte{{}, make([][32]byte, 0, 8), [][32]byte{{1}, {2}}[:0]} {
			f.Manifest = api.Manifest{Chunks: chunks}
			mustBe(t, 4, f, api.OK)
		}
		for _, m := range slices.Concat(notEmpty(), images(t), noManifests(t)[2:]) {
			f.Manifest = m
			mustBe(t, 4, f, api.ErrFact)
		}
	}
}

// P10.2: two reasons at once, and all of them.
func TestCheckTwoReasons(t *testing.T) {
	m := imageOf(t, 3, 2)
	spoil := []func(nodes *int, f *api.Fact){
		func(nodes *int, f *api.Fact) { *nodes = 0 },
		func(nodes *int, f *api.Fact) { *nodes = 10 },
		func(nodes *int, f *api.Fact) { f.Node = -1 },
		func(nodes *int, f *api.Fact) { f.Node = 9 },
		func(nodes *int, f *api.Fact) { f.Epoch = 15 },
		func(nodes *int, f *api.Fact) { f.Epoch = top + 1 },
		func(nodes *int, f *api.Fact) { f.Epoch = 16 + 9 },
		func(nodes *int, f *api.Fact) { f.Kind = 0 },
		func(nodes *int, f *api.Fact) { f.Kind = 4 },
		func(nodes *int, f *api.Fact) { f.Manifest.Size = -1 },
		func(nodes *int, f *api.Fact) { f.Manifest.Chunks = make([][32]byte, 5) },
	}
	for _, f := range []api.Fact{published(35, m), healthy(35, 3), abort(35, 3)} {
		all, nodes := f, 9
		for _, one := range spoil {
			for _, other := range spoil {
				g, n := f, 9
				one(&n, &g)
				other(&n, &g)
				mustBe(t, n, g, api.ErrFact)
			}
			one(&nodes, &all)
		}
		mustBe(t, nodes, all, api.ErrFact)
	}
}

// may says in the chapter's words whether a fact may be, whose manifest is empty, may be, or neither.
func may(nodes int, f api.Fact, isEmpty, mayBe bool) bool {
	if nodes < 1 || nodes > 9 {
		return false
	}
	if f.Node < 0 || f.Node > nodes-1 {
		return false
	}
	if f.Epoch < 16 || f.Epoch > 1<<40 {
		return false
	}
	whose := int(f.Epoch - f.Epoch/16*16)
	if whose >= nodes {
		return false
	}
	switch f.Kind {
	case 1:
		return f.Node == whose && mayBe
	case 2, 3:
		return isEmpty
	}
	return false
}

// P10.2: all fields, one against the other, held against the chapter's words.
func TestCheckAll(t *testing.T) {
	manifests := []api.Manifest{{}, {Chunks: [][32]byte{}}, imageOf(t, 1, 1), imageOf(t, 64, 1), {Size: 10, Chunk: 4, Chunks: make([][32]byte, 2)}, {Whole: [32]byte{31: 1}}}
	epochs := []int64{math.MinInt64, -16, 0, 15, top, top + 1, math.MaxInt64}
	for rest := range int64(16) {
		epochs = append(epochs, 16+rest, top-16+rest)
	}
	for nodes := -1; nodes <= 11; nodes++ {
		for node := -1; node <= 11; node++ {
			for kind := -1; kind <= 5; kind++ {
				for _, epoch := range epochs {
					for i, m := range manifests {
						f := api.Fact{Kind: kind, Epoch: epoch, Node: node, Manifest: m}
						want := api.OK
						if !may(nodes, f, i < 2, i == 2 || i == 3) {
							want = api.ErrFact
						}
						mustBe(t, nodes, f, want)
					}
				}
			}
		}
	}
}

// order says which of two facts comes first, in the chapter's words: by Epoch, then by Kind, then by Node.
func order(a, b api.Fact) int {
	return slices.Compare([]int64{a.Epoch, int64(a.Kind), int64(a.Node)}, []int64{b.Epoch, int64(b.Kind), int64(b.Node)})
}

// mustOrder tells of two facts that are not in the order that they must be.
func mustOrder(t *testing.T, a, b api.Fact) {
	t.Helper()
	want := order(a, b)
	if fact.Less(a, b) != (want < 0) || fact.Less(b, a) != (want > 0) {
		t.Errorf("%d, %d, %d and %d, %d, %d: %v, %v", a.Epoch, a.Kind, a.Node, b.Epoch, b.Kind, b.Node, fact.Less(a, b), fact.Less(b, a))
	}
}

// P10.2: each fact of a row is less than all behind it, and no other one: what comes ahead tells, whatever comes behind.
func TestLess(t *testing.T) {
	l := []api.Fact{
		{Kind: 3, Epoch: 16, Node: 8}, {Kind: 1, Epoch: 17, Node: 1}, {Kind: 2, Epoch: 17, Node: 0}, {Kind: 2, Epoch: 17, Node: 7}, {Kind: 2, Epoch: 17, Node: 8},
		{Kind: 3, Epoch: 17, Node: 0}, {Kind: 3, Epoch: 17, Node: 1}, {Kind: 1, Epoch: 18, Node: 2}, {Kind: 3, Epoch: 18, Node: 0}, {Kind: 1, Epoch: 32, Node: 0},
		{Kind: 2, Epoch: 32, Node: 0}, {Kind: 1, Epoch: 1 << 32, Node: 0}, {Kind: 1, Epoch: 1<<32 + 1, Node: 0}, {Kind: 1, Epoch: top, Node: 0},
	}
	for i, a := range l {
		for k, b := range l {
			if fact.Less(a, b) != (i < k) {
				t.Errorf("the facts %d and %d", i, k)
			}
		}
	}
}

// P10.2: facts that may not be have an order, too: numbers at their edges, whose difference is beyond all numbers.
func TestLessAtTheEdges(t *testing.T) {
	edges := []int64{math.MinInt64, math.MinInt64 + 1, -high, -1 << 32, -1, 0, 1, 1 << 32, 1<<32 + 1, high, math.MaxInt64 - 1, math.MaxInt64}
	var l []api.Fact
	for _, epoch := range edges {
		for _, kind := range edges {
			for _, node := range edges {
				l = append(l, api.Fact{Kind: int(kind), Epoch: epoch, Node: int(node)})
			}
		}
	}
	for _, a := range l {
		for _, b := range l {
			if fact.Less(a, b) != (order(a, b) < 0) {
				t.Fatalf("%d, %d, %d and %d, %d, %d: %v", a.Epoch, a.Kind, a.Node, b.Epoch, b.Kind, b.Node, fact.Less(a, b))
			}
		}
	}
}

// P10.2: of facts that look like chance, with few numbers, so that many are alike in part.
func TestLessOfMany(t *testing.T) {
	k := uint64(2)
	one := func() api.Fact {
		return api.Fact{Kind: draw(&k, 4), Epoch: int64(draw(&k, 4)), Node: draw(&k, 4)}
	}
	for range 20000 {
		mustOrder(t, one(), one())
	}
}

// P10.2: a fact is not less than itself, whatever its manifest.
func TestLessOfItself(t *testing.T) {
	l := several(t)
	for _, f := range l {
		mustOrder(t, f, f)
		for _, m := range slices.Concat(images(t), notEmpty()[:16], noManifests(t)) {
			g := f
			g.Manifest = m
			if fact.Less(f, g) || fact.Less(g, f) {
				t.Errorf("%d, %d, %d, with other manifests", f.Kind, f.Epoch, f.Node)
			}
		}
	}
	for _, f := range l {
		for _, g := range l {
			mustOrder(t, f, g)
		}
	}
}
