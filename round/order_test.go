package round_test

import (
	"math"
	"slices"
	"testing"

	"shipwright/round"
)

// P14.2: orders that were told one by one.
func TestOrderKnown(t *testing.T) {
	for _, c := range []struct {
		nodes, me int
		draw      uint64
		want      []int
		behind    uint64
	}{
		{2, 1, 7, []int{0}, 7},
		{3, 0, 0, []int{1, 2}, 1442695040888963407},
		{3, 1, 5, []int{2, 0}, 14816632086413376816},
		{3, 2, math.MaxUint64, []int{1, 0}, 13525302890751722018},
		{4, 2, 1, []int{0, 1, 3}, 9396908728118811419},
		{5, 4, 77, []int{2, 0, 1, 3}, 16954417524535972554},
		{6, 0, 1 << 63, []int{5, 3, 4, 1, 2}, 16624504664647309748},
		{7, 3, 6, []int{4, 5, 0, 1, 2, 6}, 15763803727930581473},
		{8, 7, 1<<40 + 1, []int{6, 3, 5, 4, 2, 1, 0}, 16112747961392328831},
		{9, 0, 0, []int{4, 1, 3, 5, 6, 7, 2, 8}, 1459328389850446429},
		{9, 4, 1, []int{8, 5, 3, 2, 6, 0, 1, 7}, 10218303843513747618},
		{9, 8, math.MaxUint64, []int{6, 5, 4, 7, 2, 1, 3, 0}, 11147097009896696856},
	} {
		mustOrder(t, c.nodes, c.me, c.draw, c.want, c.behind)
	}
}

// P14.2: how many nodes there may be: 1 to 9. Of others there is none, and the draw is as it was.
func TestOrderOfHowMany(t *testing.T) {
	for _, d := range drawn(20) {
		for _, nodes := range append([]int{0}, ends...) {
			for _, me := range append([]int{0, 1, 2, 5, 8, 9, nodes - 1, nodes}, ends...) {
				mustOrder(t, nodes, me, d, nil, d)
			}
		}
		mustOrder(t, 1, 0, d, nil, d)
		mustOrder(t, 2, 0, d, []int{1}, d)
		mustOrder(t, 2, 1, d, []int{0}, d)
		if l, _ := round.Order(9, 0, d); len(l) != 8 {
			t.Errorf("%d: %v: of nine there are eight others", d, l)
		}
	}
}

// P14.2: which node one may be: 0 to nodes less 1. Of others there is none, and the draw is as it was.
func TestOrderOfWhom(t *testing.T) {
	for _, d := range drawn(20) {
		for nodes := 1; nodes <= 9; nodes++ {
			for _, me := range append([]int{-1, nodes, nodes + 1, 9, -nodes}, ends...) {
				mustOrder(t, nodes, me, d, nil, d)
			}
			for _, me := range []int{0, nodes - 1} {
				if l, _ := round.Order(nodes, me, d); len(l) != nodes-1 {
					t.Errorf("Order(%d, %d, %d): %v", nodes, me, d, l)
				}
			}
		}
	}
}

// P14.2: each order is as the chapter's words have it, with the draw behind it.
func TestOrderAsTold(t *testing.T) {
	for _, d := range drawn(500) {
		for nodes := 1; nodes <= 9; nodes++ {
			for me := range nodes {
				want, behind := toldOrder(nodes, me, d)
				mustOrder(t, nodes, me, d, want, behind)
			}
		}
	}
}

// P14.2: the draw behind an order is the one that was drawn as often as there are others, but one.
func TestDrawBehindOrder(t *testing.T) {
	for _, d := range drawn(200) {
		behind := d
		for nodes := 2; nodes <= 9; nodes++ {
			for me := range nodes {
				if _, got := round.Order(nodes, me, d); got != behind {
					t.Errorf("Order(%d, %d, %d): the draw %d behind it instead of %d", nodes, me, d, got, behind)
				}
			}
			behind = round.Draw(behind)
		}
	}
}

// P14.2: none is me, and each other one is there once.
func TestOrderHasEachOtherOnce(t *testing.T) {
	for _, d := range drawn(500) {
		for nodes := 1; nodes <= 9; nodes++ {
			for me := range nodes {
				l, _ := round.Order(nodes, me, d)
				slices.Sort(l)
				want := others(nodes, me)
				if !slices.Equal(l, want) {
					t.Errorf("Order(%d, %d, %d): %v in all instead of %v", nodes, me, d, l, want)
				}
			}
		}
	}
}

// others are all numbers below nodes but me.
func others(nodes, me int) []int {
	var l []int
	for i := range nodes {
		if i != me {
			l = append(l, i)
		}
	}
	return l
}

// P14.2: draws give many orders: of up to four others all that there are, of more each one at each place.
func TestOrdersAreMany(t *testing.T) {
	all := []int{1, 1, 1, 2, 6, 24}
	for nodes := 1; nodes <= 9; nodes++ {
		for me := range nodes {
			orders, places := map[string]int{}, map[[2]int]int{}
			for _, d := range drawn(2000) {
				l, _ := round.Order(nodes, me, d)
				orders[written(l)]++
				for at, n := range l {
					places[[2]int{at, n}]++
				}
			}
			if nodes < len(all) && len(orders) != all[nodes] || len(places) != (nodes-1)*(nodes-1) {
				t.Errorf("%d nodes, %d: %d orders, and %d places of them", nodes, me, len(orders), len(places))
			}
		}
	}
}

// written is a list of numbers, that are below 10, as a text.
func written(l []int) string {
	var s []byte
	for _, n := range l {
		s = append(s, byte('0'+n))
	}
	return string(s)
}

// P14.2: who one is does not change which places change: it is the same order of the others that there are.
func TestOrderTurnsPlacesAbout(t *testing.T) {
	for _, d := range drawn(200) {
		for nodes := 2; nodes <= 9; nodes++ {
			first, _ := round.Order(nodes, nodes-1, d)
			for me := range nodes {
				rising := others(nodes, me)
				var want []int
				for _, n := range first {
					want = append(want, rising[n])
				}
				if got, _ := round.Order(nodes, me, d); !slices.Equal(got, want) {
					t.Errorf("Order(%d, %d, %d): %v instead of %v", nodes, me, d, got, want)
				}
			}
		}
	}
}
