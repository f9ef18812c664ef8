package lattice_test

import (
	"slices"
	"testing"

	"shipwright/api"
	"shipwright/lattice"
)

// orders are all orders of some numbers.
func orders(n int) [][]int {
	if n == 0 {
		return [][]int{nil}
	}
	var all [][]int
	for _, o := range orders(n - 1) {
		for at := range n {
			all = append(all, slices.Insert(slices.Clone(o), at, n-1))
		}
	}
	return all
}

// joins holds what three lists give, whoever is merged into whom, against what is to be there.
func joins(t *testing.T, nodes int, lists [3][]api.Fact, want []api.Fact) {
	t.Helper()
	for _, o := range orders(3) {
		a, b, c := lists[o[0]], lists[o[1]], lists[o[2]]
		ab := lattice.Merge(nodes, a, b)
		mustMerge(t, nodes, ab, c, want)
		mustMerge(t, nodes, c, ab, want)
		all := lattice.Merge(nodes, ab, c)
		// Once more, and once more, in part and whole.
		for _, again := range [][]api.Fact{a, b, c, ab, all} {
			mustMerge(t, nodes, all, again, want)
			mustMerge(t, nodes, again, all, want)
			mustMerge(t, nodes, lattice.Merge(nodes, again, ab), lattice.Merge(nodes, c, b), want)
		}
		mustMerge(t, nodes, lattice.Merge(nodes, a, c), lattice.Merge(nodes, c, b), want)
	}
}

// P11.3: lists that share some.
func TestJoinOfThree(t *testing.T) {
	l := several()
	var lists [3][]api.Fact
	for i, f := range l {
		for k := range lists {
			if i%3 == k || i%7 == k || i%11 == 0 {
				lists[k] = append(lists[k], f)
			}
		}
	}
	joins(t, 9, lists, l)
	joins(t, 9, [3][]api.Fact{l, l, l}, l)
	joins(t, 9, [3][]api.Fact{nil, l, nil}, l)
	joins(t, 9, [3][]api.Fact{l[:20], l[20:], {}}, l)
	joins(t, 9, [3][]api.Fact{}, nil)
}

// P11.3: lists that look like chance, up to the most facts in all.
func TestJoinOfMany(t *testing.T) {
	k := uint64(11)
	for _, many := range []int{1, 2, 5, 30, most - 1, most} {
		for range 5 {
			l := filled(many)
			var lists [3][]api.Fact
			for _, f := range l {
				in := 1 + draw(&k, 7)
				for i := range lists {
					if in>>i&1 == 1 {
						lists[i] = append(lists[i], f)
					}
				}
			}
			joins(t, 9, lists, l)
		}
	}
}

// P11.3: fact by fact, in all orders of a few, and each one often.
func TestJoinInAllOrders(t *testing.T) {
	l := []api.Fact{published(16, 1), healthy(16, 0), healthy(16, 2), abort(16, 0), published(33, 2), abort(33, 1)}
	for _, o := range orders(len(l)) {
		var one, often []api.Fact
		for i, at := range o {
			one, _ = lattice.Add(3, one, l[at])
			often = append(often, l[at], l[o[i/2]])
		}
		if !sameList(one, l) {
			t.Fatalf("%v: %v", o, told(one))
		}
		mustMerge(t, 3, nil, often, l)
		mustMerge(t, 3, one, often, l)
	}
}

// P11.3: what is asked of facts that came in another order is answered alike.
func TestJoinAnswersAlike(t *testing.T) {
	l := several()
	backwards := slices.Clone(l)
	slices.Reverse(backwards)
	all := lattice.Merge(9, nil, backwards)
	for majority := range 7 {
		if a, b := lattice.Best(l, majority), lattice.Best(all, majority); a != b {
			t.Error(majority, a, b)
		}
	}
	for _, f := range l {
		mustWho(t, all, f.Kind, f.Epoch, lattice.Who(l, f.Kind, f.Epoch)...)
	}
	mustNext(t, all, lattice.Next(l))
}
