package fact_test

import (
	"bytes"
	"math"
	"slices"
	"testing"

	"shipwright/api"
	"shipwright/fact"
	"shipwright/manifest"
)

// top is the greatest epoch.
const top = int64(1) << 40

// high is a number far off, whose lowest bits are all 0.
const high = math.MaxInt/2 + 1

// draw is the next one of numbers that look like chance.
func draw(k *uint64, below int) int {
	*k = *k*6364136223846793005 + 1442695040888963407
	return int(*k >> 33 % uint64(below))
}

// text has so many bytes of all kinds.
func text(size int) []byte {
	k := uint64(size)
	b := make([]byte, size)
	for i := range b {
		b[i] = byte(draw(&k, 256))
	}
	return b
}

// imageOf is the manifest of an image of such a size.
func imageOf(t *testing.T, size, chunk int) api.Manifest {
	t.Helper()
	m, err := manifest.Build(text(size), chunk)
	if err != api.OK {
		t.Fatalf("%d bytes, in chunks of %d: %d", size, chunk, err)
	}
	return m
}

// images are manifests that may be: of one chunk, of some and of sixty-four, the greatest one among them.
func images(t *testing.T) []api.Manifest {
	return []api.Manifest{
		imageOf(t, 1, 1), imageOf(t, 3, 2), imageOf(t, 10, 4), imageOf(t, 64, 1), imageOf(t, 300, 4096),
		imageOf(t, 4096, 64), imageOf(t, 65473, 1024), imageOf(t, 65536, 1024), imageOf(t, 65536, 4096),
		{Size: 65, Chunk: 2, Chunks: make([][32]byte, 33)},
	}
}

// The three kinds of facts.
func published(epoch int64, m api.Manifest) api.Fact {
	return api.Fact{Kind: api.FEpoch, Epoch: epoch, Node: int(epoch % 16), Manifest: m}
}

func healthy(epoch int64, node int) api.Fact {
	return api.Fact{Kind: api.FHealthy, Epoch: epoch, Node: node}
}

func abort(epoch int64, node int) api.Fact {
	return api.Fact{Kind: api.FAbort, Epoch: epoch, Node: node}
}

// several are facts that may be, of each kind, at the limits of what they tell.
func several(t *testing.T) []api.Fact {
	var l []api.Fact
	for i, m := range images(t) {
		l = append(l, published(16*int64(i+1)+int64(i)%9, m))
	}
	for _, epoch := range []int64{16, 24, 32, 55, 64, 8184, 8192, top - 16, top - 8, top} {
		l = append(l, published(epoch, imageOf(t, 3, 2)))
		for node := range 9 {
			l = append(l, healthy(epoch, node), abort(epoch, node))
		}
	}
	return l
}

func same(a, b api.Fact) bool {
	x, y := a.Manifest, b.Manifest
	return a.Kind == b.Kind && a.Epoch == b.Epoch && a.Node == b.Node &&
		x.Size == y.Size && x.Chunk == y.Chunk && x.Whole == y.Whole && slices.Equal(x.Chunks, y.Chunks)
}

// copied is a fact in memory of its own.
func copied(f api.Fact) api.Fact {
	f.Manifest.Chunks = slices.Clone(f.Manifest.Chunks)
	return f
}

// encoded are a fact's bytes.
func encoded(t *testing.T, f api.Fact) []byte {
	t.Helper()
	b, err := fact.Encode(f)
	if err != api.OK {
		t.Fatalf("Encode of %d, %d, %d: %d", f.Kind, f.Epoch, f.Node, err)
	}
	return b
}

// P10.1 to P10.3: the chapter's examples.
func TestExamples(t *testing.T) {
	if e := fact.Epoch(3, 2); e != 35 {
		t.Error(e)
	}
	if node, n := fact.Of(35); node != 3 || n != 2 {
		t.Error(node, n)
	}
	if b, err := fact.Encode(healthy(35, 1)); !bytes.Equal(b, []byte{4, 70, 2}) || err != api.OK {
		t.Error(b, err)
	}
	if err := fact.Check(3, healthy(35, 1)); err != api.ErrFact {
		t.Error(err)
	}
	if err := fact.Check(4, healthy(35, 1)); err != api.OK {
		t.Error(err)
	}
}

// P10.1, P10.2: the numbers that the chapter names.
func TestConstants(t *testing.T) {
	if api.FEpoch != 1 || api.FHealthy != 2 || api.FAbort != 3 || api.MaxEpoch != top || api.MaxNodes != 9 || api.ErrFact != 100 {
		t.Error(api.FEpoch, api.FHealthy, api.FAbort, int64(api.MaxEpoch), api.MaxNodes, int(api.ErrFact))
	}
}

// R4: nothing that is handed in is changed, the spare room of its chunks included, and the spare room is not read.
func TestNothingIsChanged(t *testing.T) {
	chunks := [][32]byte{{1}, {2}, {3}, {4}, {5}}
	was := slices.Clone(chunks)
	f := published(35, api.Manifest{Size: 10, Chunk: 4, Chunks: chunks[1:4], Whole: [32]byte{9}})
	before := copied(f)
	b := encoded(t, f)
	if fact.Check(4, f) != api.OK || fact.Less(f, f) || !bytes.Equal(b, encoded(t, before)) {
		t.Error("a fact with room around its chunks is another one")
	}
	around := slices.Concat([]byte{9}, b, []byte{7, 7, 7})
	kept := slices.Clone(around)
	g, err := fact.Decode(around[1 : 1+len(b)])
	if err != api.OK || !same(g, before) {
		t.Errorf("%+v, %d", g, err)
	}
	if !slices.Equal(chunks, was) || !same(f, before) || !bytes.Equal(around, kept) {
		t.Error("what was handed in is another thing by now")
	}
}

// R4: what is answered is memory of its own, spare room too: nobody who changes it, or what was handed in, changes another.
func TestAnswersAreNew(t *testing.T) {
	f := published(35, imageOf(t, 64, 1))
	want := copied(f)
	b, c := encoded(t, f), encoded(t, f)
	clear(f.Manifest.Chunks)
	clear(c[:cap(c)])
	if !bytes.Equal(b, encoded(t, want)) {
		t.Error("the bytes of a fact whose chunks changed")
	}
	x, _ := fact.Decode(b)
	y, _ := fact.Decode(b)
	clear(b[:cap(b)])
	clear(x.Manifest.Chunks[:cap(x.Manifest.Chunks)])
	if !same(y, want) || !bytes.Equal(encoded(t, y), encoded(t, want)) {
		t.Errorf("%+v", y)
	}
}

// R4: likewise the few bytes of facts without a manifest.
func TestFewBytesAreNew(t *testing.T) {
	for _, f := range []api.Fact{healthy(35, 1), abort(top, 8)} {
		b, c := encoded(t, f), encoded(t, f)
		clear(c[:cap(c)])
		g, err := fact.Decode(b)
		if err != api.OK || !same(g, f) || !bytes.Equal(b, encoded(t, f)) {
			t.Errorf("%v: %+v, %d", b, g, err)
		}
	}
}

// R5: a call answers by its arguments alone, whatever went ahead of it.
func TestNothingIsKept(t *testing.T) {
	f := published(35, imageOf(t, 10, 4))
	b := encoded(t, f)
	for _, other := range several(t) {
		c := encoded(t, other)
		fact.Decode(c)
		fact.Decode(c[:len(c)-1])
		fact.Check(1, other)
		g, err := fact.Decode(b)
		if err != api.OK || !same(g, f) || !bytes.Equal(encoded(t, f), b) || fact.Check(4, f) != api.OK || fact.Check(3, f) != api.ErrFact {
			t.Errorf("behind %d, %d, %d: %+v, %d", other.Kind, other.Epoch, other.Node, g, err)
		}
	}
}
