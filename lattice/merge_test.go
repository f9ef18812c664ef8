package lattice_test

import (
	"slices"
	"testing"

	"shipwright/api"
	"shipwright/lattice"
)

// added are a list's members added to another one, one by one.
func added(nodes int, a, b []api.Fact) []api.Fact {
	for _, f := range b {
		a, _ = lattice.Add(nodes, a, f)
	}
	return a
}

// P11.1: none on either side, and on both.
func TestMergeNone(t *testing.T) {
	l := several()
	for _, none := range [][]api.Fact{nil, {}, several()[:0]} {
		mustMerge(t, 9, none, none, nil)
		mustMerge(t, 9, none, nil, nil)
		mustMerge(t, 9, l, none, l)
		mustMerge(t, 9, none, l, l)
	}
	mustMerge(t, 9, l, l, l)
}

// P11.1: lists that share none, some and all, in parts of each kind.
func TestMergeParts(t *testing.T) {
	l := several()
	for _, part := range [][2]func(i int) bool{
		{func(i int) bool { return i%2 == 0 }, func(i int) bool { return i%2 == 1 }},
		{func(i int) bool { return i < 20 }, func(i int) bool { return i >= 20 }},
		{func(i int) bool { return i < 30 }, func(i int) bool { return i >= 10 }},
		{func(i int) bool { return i%2 == 0 || i%3 == 0 }, func(i int) bool { return i%2 == 1 || i%5 == 0 }},
		{func(i int) bool { return true }, func(i int) bool { return i == 17 }},
		{func(i int) bool { return i != 40 }, func(i int) bool { return i == 40 }},
	} {
		var a, b []api.Fact
		for i, f := range l {
			if part[0](i) {
				a = append(a, f)
			}
			if part[1](i) {
				b = append(b, f)
			}
		}
		mustMerge(t, 9, a, b, l)
		mustMerge(t, 9, b, a, l)
	}
}

// P11.1: what Add refuses is left out, and what is behind it is added.
func TestMergeRefused(t *testing.T) {
	bad := refused()
	want := []api.Fact{published(16, 1), healthy(16, 0), abort(16, 8), published(35, 3)}
	b := slices.Concat([]api.Fact{want[2]}, bad, []api.Fact{want[3]}, bad, []api.Fact{want[1]}, bad)
	mustMerge(t, 9, want[:1], b, want)
	mustMerge(t, 9, want, b, want)
	mustMerge(t, 9, nil, b, want[1:])
	mustMerge(t, 9, want, bad, want)
	mustMerge(t, 9, nil, bad, nil)
}

// P11.1: of fewer nodes others are left out; of a number of nodes that may not be, all.
func TestMergeNodes(t *testing.T) {
	l := several()
	for nodes := 1; nodes <= 9; nodes++ {
		var want []api.Fact
		for _, f := range l {
			if f.Node < nodes && f.Epoch%16 < int64(nodes) {
				want = append(want, f)
			}
		}
		mustMerge(t, nodes, nil, l, want)
		// What is there already nobody asks.
		mustMerge(t, nodes, l, want, l)
	}
	for _, nodes := range append([]int{0}, far...) {
		mustMerge(t, nodes, nil, l, nil)
		mustMerge(t, nodes, l[:5], l, l[:5])
	}
}

// P11.1: of two manifests of an epoch the first list's stays; of two in the second list, the first one.
func TestMergeManifests(t *testing.T) {
	a, b := published(33, 1), published(33, 2)
	mustMerge(t, 9, []api.Fact{a}, []api.Fact{b}, []api.Fact{a})
	mustMerge(t, 9, []api.Fact{b}, []api.Fact{a}, []api.Fact{b})
	mustMerge(t, 9, nil, []api.Fact{a, b}, []api.Fact{a})
	mustMerge(t, 9, nil, []api.Fact{b, healthy(16, 0), a}, []api.Fact{healthy(16, 0), b})
	mustMerge(t, 9, []api.Fact{a, abort(33, 0)}, []api.Fact{b, b, healthy(33, 0)}, []api.Fact{a, healthy(33, 0), abort(33, 0)})
	bad := b
	bad.Manifest.Size = 0
	mustMerge(t, 9, nil, []api.Fact{bad, a, b}, []api.Fact{a})
}

// P11.1: a second list that does not rise, and has some twice.
func TestMergeWhatDoesNotRise(t *testing.T) {
	l := several()
	backwards := slices.Clone(l)
	slices.Reverse(backwards)
	mustMerge(t, 9, nil, backwards, l)
	mustMerge(t, 9, l[10:20], backwards, l)
	mustMerge(t, 9, nil, slices.Concat(backwards, l, backwards), l)
	mustMerge(t, 9, []api.Fact{healthy(32, 1)}, []api.Fact{healthy(48, 1), healthy(16, 1), healthy(48, 1), healthy(32, 1), healthy(16, 1)}, []api.Fact{healthy(16, 1), healthy(32, 1), healthy(48, 1)})
}

// P11.1: on the way the most are reached: the first ones are in, wherever they belong, and what is there is no harm.
func TestMergeMany(t *testing.T) {
	all := filled(most + 100)
	for _, many := range []int{0, 1, 100, most - 1, most} {
		mustMerge(t, 9, all[:many], all[many:], all[:most])
		mustMerge(t, 9, all[:many], all, all[:most])
	}
	// Of these three just the first one that is not there finds room.
	for _, b := range [][]api.Fact{{ahead, between, behind}, {between, behind, ahead}, {behind, ahead, between}} {
		l := filled(most - 1)
		want := append(filled(most-1), b[0])
		slices.SortFunc(want, order)
		mustMerge(t, 9, l, b, want)
		mustMerge(t, 9, l, slices.Concat(l, refused(), b), want)
		mustMerge(t, 9, want, b, want)
		mustMerge(t, 9, want, slices.Concat(l, b, l), want)
	}
	backwards := slices.Clone(all)
	slices.Reverse(backwards)
	mustMerge(t, 9, nil, backwards, all[100:])
	mustMerge(t, 9, all[:50], backwards, slices.Concat(all[:50], all[150:]))
	// More than the most, that nobody added.
	mustMerge(t, 9, all, []api.Fact{ahead}, all)
	mustMerge(t, 9, all, nil, all)
}

// P11.1: whatever the lists are, it is as Add does, one by one.
func TestMergeIsAdd(t *testing.T) {
	k := uint64(5)
	pool := slices.Concat(several(), refused(), filled(most+20), []api.Fact{published(33, 1), published(33, 2), published(16, 9)})
	some := func(many int) []api.Fact {
		var l []api.Fact
		for range many {
			l = append(l, pool[draw(&k, len(pool))])
		}
		return l
	}
	for i := range 100 {
		nodes := 1 + i%9
		a := added(nodes, nil, some(draw(&k, 150)))
		b := some(draw(&k, 400))
		mustMerge(t, nodes, a, b, added(nodes, a, b))
	}
}
