package round_test

import (
	"slices"
	"testing"

	"shipwright/round"
)

// spoil changes all of a list, its spare room with it.
func spoil(l []int) {
	l = l[:cap(l)]
	for i := range l {
		l[i] = 77
	}
}

// R4: what Order answers is its own: it shares no memory with another answer, spare room too.
func TestAnswersShareNothing(t *testing.T) {
	for _, d := range drawn(20) {
		for nodes := -1; nodes <= 10; nodes++ {
			for me := -1; me <= nodes; me++ {
				first, _ := round.Order(nodes, me, d)
				second, behind := round.Order(nodes, me, d)
				was := slices.Clone(second)
				spoil(first)
				_ = append(first, 78)
				if !slices.Equal(second, was) {
					t.Errorf("Order(%d, %d, %d): two answers share memory", nodes, me, d)
				}
				spoil(second)
				mustOrder(t, nodes, me, d, was, behind)
			}
		}
	}
}

// R4: nor does a Turn tell of what was done to a list that Order answered.
func TestTurnsStayBehindSpoiling(t *testing.T) {
	for nodes := 2; nodes <= 9; nodes++ {
		was := turnsOf(nodes, 0, 5, 50)
		for d, r := uint64(5), 0; r < 8; r++ {
			var l []int
			l, d = round.Order(nodes, 0, d)
			spoil(l)
		}
		if got := turnsOf(nodes, 0, 5, 50); !slices.Equal(got, was) {
			t.Errorf("%d nodes: %v instead of %v", nodes, got, was)
		}
	}
}

// R5: a call answers by its arguments alone, in whatever order calls follow one another.
func TestAnswersHangOnArgumentsAlone(t *testing.T) {
	draws := drawn(60)
	for range 3 {
		for i, d := range draws {
			nodes := 2 + i%8
			me := i % nodes
			want, behind := toldOrder(nodes, me, d)
			mustTurn(t, nodes, me, d, 0, want[0])
			mustOrder(t, nodes, me, d, want, behind)
			mustDraw(t, d, toldDraw(d))
			mustTurn(t, nodes, me, d, nodes-2, want[nodes-2])
			mustTurn(t, nodes, me, behind, 0, round.Turn(nodes, me, d, nodes-1))
		}
		slices.Reverse(draws)
	}
}
