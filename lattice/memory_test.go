package lattice_test

import (
	"slices"
	"testing"

	"shipwright/api"
	"shipwright/lattice"
)

// roomy are facts with spare room behind them, that holds others, and so is each one's list of chunks; whole is all of it.
func roomy(l []api.Fact) (facts, whole []api.Fact) {
	for _, f := range l {
		chunks := append([][32]byte(nil), f.Manifest.Chunks...)
		f.Manifest.Chunks = append(chunks, [32]byte{91}, [32]byte{92}, [32]byte{93})[:len(chunks)]
		whole = append(whole, f)
	}
	for range 5 {
		whole = append(whole, published(35, 94))
	}
	return whole[:len(l)], whole
}

// spare are a list of chunks with its spare room.
func spare(m api.Manifest) [][32]byte {
	return m.Chunks[:cap(m.Chunks)]
}

// snapshot is all that facts are, the spare room of their chunks with it.
func snapshot(l []api.Fact) []api.Fact {
	own := slices.Clone(l)
	for i := range own {
		own[i].Manifest.Chunks = append([][32]byte(nil), spare(own[i].Manifest)...)
	}
	return own
}

// is tells whether facts are as they were, the spare room of their chunks with it.
func is(l, was []api.Fact) bool {
	return sameList(snapshot(l), was)
}

// spoil changes all of an answer: its members, their chunks, and all spare room.
func spoil(l []api.Fact) {
	for _, f := range l {
		for i := range spare(f.Manifest) {
			spare(f.Manifest)[i] = [32]byte{77}
		}
	}
	l = l[:cap(l)]
	for i := range l {
		l[i] = api.Fact{Kind: 77, Epoch: 77, Node: 77}
	}
}

// apart tells of facts of one answer of which two share memory: each one's chunks, and their spare room, are marked, and the marks are still there.
func apart(t *testing.T, l []api.Fact) {
	t.Helper()
	mark := func(i int) [32]byte { return [32]byte{byte(i), byte(i >> 8), 78} }
	for i, f := range l {
		for k := range spare(f.Manifest) {
			spare(f.Manifest)[k] = mark(i)
		}
	}
	for i, f := range l {
		for _, c := range spare(f.Manifest) {
			if c != mark(i) {
				t.Errorf("the fact %d shares its chunks", i)
				break
			}
		}
	}
}

// adds are calls of Add, of each of its answers: one more, one that is there, one with another manifest, one that may not be, and too many.
var adds = []struct {
	l    []api.Fact
	f    api.Fact
	want api.Errno
}{
	{nil, published(35, 3), api.OK}, {several()[:9], published(35, 3), api.OK}, {several(), published(36, 3), api.OK}, {several(), healthy(18, 0), api.OK},
	{several(), several()[0], api.OK}, {several(), published(16, 50), api.OK}, {several(), published(25, 1), api.ErrFact}, {nil, published(25, 1), api.ErrFact},
	{filled(most), published(16, 1), api.ErrMany}, {filled(most), filled(most)[0], api.OK}, {filled(most - 1), published(16, 1), api.OK}, {filled(most), api.Fact{}, api.ErrFact},
}

// R4: Add neither changes nor keeps what it is handed in, and its answer is its own.
func TestAddsMemory(t *testing.T) {
	for i, c := range adds {
		l, whole := roomy(c.l)
		f, _ := roomy([]api.Fact{c.f})
		was, one := snapshot(whole), snapshot(f)
		first, err := lattice.Add(9, l, f[0])
		want := copied(first)
		second, _ := lattice.Add(9, l, f[0])
		if err != c.want || !is(whole, was) || !is(f, one) {
			t.Errorf("%d: %d: what was handed in is another thing by now", i, err)
		}
		spoil(first)
		if !is(whole, was) || !is(f, one) || !sameList(second, want) {
			t.Errorf("%d: an answer shares memory with what was handed in, or with another answer", i)
		}
		spoil(whole)
		spoil(f)
		if !sameList(second, want) {
			t.Errorf("%d: what was handed in was kept", i)
		}
		apart(t, second)
	}
}

// R4: Merge neither changes nor keeps what it is handed in, and its answer is its own.
func TestMergesMemory(t *testing.T) {
	l := several()
	for i, c := range [][2][]api.Fact{{l[:20], l[10:]}, {nil, l}, {l, nil}, {l, l}, {filled(most - 1), l}, {filled(most), l}, {l[:0], l[:1]}, {l[1:2], slices.Concat(refused(), l[:1])}} {
		a, wholeA := roomy(c[0])
		b, wholeB := roomy(c[1])
		wasA, wasB := snapshot(wholeA), snapshot(wholeB)
		first := lattice.Merge(9, a, b)
		want := copied(first)
		second := lattice.Merge(9, a, b)
		spoil(first)
		if !is(wholeA, wasA) || !is(wholeB, wasB) || !sameList(second, want) {
			t.Errorf("%d: what was handed in is another thing by now, or another answer is", i)
		}
		spoil(wholeA)
		spoil(wholeB)
		if !sameList(second, want) {
			t.Errorf("%d: what was handed in was kept", i)
		}
		apart(t, second)
	}
}

// R4: facts that share their chunks do so no more in an answer.
func TestAnswersAreApart(t *testing.T) {
	one := published(16, 7)
	chunks := slices.Grow(one.Manifest.Chunks, 50)
	var l []api.Fact
	for i := range 9 {
		f := one
		f.Epoch, f.Node = 16+int64(i), i
		f.Manifest.Chunks = chunks
		l = append(l, f)
	}
	for _, answer := range [][]api.Fact{lattice.Merge(9, nil, l), lattice.Merge(9, l, nil), lattice.Merge(9, l[:4], l)} {
		apart(t, answer)
	}
	for _, f := range l {
		answer, _ := lattice.Add(9, l[:5], f)
		apart(t, answer)
	}
	if !sameManifest(l[8].Manifest, image(7)) {
		t.Error("what was handed in is another thing by now")
	}
}

// R4: a list handed in twice, on both sides, is one list, and the answer is its own.
func TestMergeWithItself(t *testing.T) {
	l, whole := roomy(several())
	was := snapshot(whole)
	spoil(lattice.Merge(9, l, l))
	spoil(lattice.Merge(9, l[:10], l[5:]))
	spoil(lattice.Merge(9, l[:10], whole))
	if !is(whole, was) {
		t.Error("what was handed in is another thing by now")
	}
}

// R4: Who's nodes and Manifest's chunks are memory of their own.
func TestAsksMemory(t *testing.T) {
	l, whole := roomy(several())
	was := snapshot(whole)
	first, second := lattice.Who(l, api.FAbort, 16), lattice.Who(l, api.FAbort, 16)
	clear(first[:cap(first)])
	if !slices.Equal(second, []int{0, 1, 2, 7, 8}) {
		t.Error(second)
	}
	m, _ := lattice.Manifest(l, 16)
	n, _ := lattice.Manifest(l, 16)
	clear(spare(m))
	if !is(whole, was) || !sameManifest(n, image(0)) {
		t.Error("a manifest shares its chunks")
	}
	spoil(whole)
	if !sameManifest(n, image(0)) {
		t.Error("a manifest's chunks were kept")
	}
}

// R4: what only asks changes nothing.
func TestAsksChangeNothing(t *testing.T) {
	l, whole := roomy(several())
	was := snapshot(whole)
	for _, f := range several() {
		lattice.Has(l, f.Kind, f.Epoch, f.Node)
		lattice.Who(l, f.Kind, f.Epoch)
		lattice.Manifest(l, f.Epoch)
		lattice.Aborted(l, f.Epoch, 2)
		lattice.Best(l, f.Node)
		lattice.Next(l)
	}
	if !is(whole, was) {
		t.Error("what was handed in is another thing by now")
	}
}

// R4: nothing in the spare room behind a list counts.
func TestSpareRoomIsNotRead(t *testing.T) {
	whole := append(filled(10), published(320, 1), healthy(320, 0), abort(320, 1))
	l := whole[:10]
	mustHas(t, l, api.FHealthy, 320, 0, false)
	mustWho(t, l, api.FAbort, 320)
	mustBeNone(t, l, 320)
	mustAborted(t, l, 320, 1, false)
	mustBest(t, l, 1, 160)
	mustNext(t, l, 11)
	mustAdd(t, 9, l, whole[11], append(filled(10), whole[11]), api.OK)
	mustMerge(t, 9, l, l, filled(10))
}

// R5: a call answers by its arguments alone, whatever went ahead of it, and whatever the room behind them.
func TestNothingIsKept(t *testing.T) {
	l := several()
	for i, f := range l {
		lattice.Add(9, nil, f)
		lattice.Merge(9, filled(most), l)
		lattice.Best(filled(i), 3)
		lattice.Next(filled(i))
		lattice.Manifest(filled(i), f.Epoch)
		mustAdd(t, 9, slices.Grow(slices.Clone(l[:i]), i), f, l[:i+1], api.OK)
		mustAdd(t, 9, slices.Clip(slices.Clone(l[:i])), f, l[:i+1], api.OK)
		mustBest(t, l, 6, top)
		mustNext(t, l, 1<<36+1)
	}
}
