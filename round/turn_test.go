package round_test

import (
	"testing"
	"time"

	"shipwright/round"
)

// last is the last place whose turn is told.
const last = 1 << 20

// P14.3: turns that were told one by one.
func TestTurnKnown(t *testing.T) {
	for _, c := range []struct {
		nodes, me int
		draw      uint64
		at, want  int
	}{
		{2, 0, 9, last, 1},
		{3, 1, 5, last, 2},
		{4, 0, 0, 3, 3},
		{9, 0, 0, 0, 4},
		{9, 0, 0, 7, 8},
		{9, 0, 0, 8, 5},
		{9, 8, 8, last, 3},
		{9, 4, 1, last - 1, 2},
		{5, 2, 2, 1000, 0},
	} {
		mustTurn(t, c.nodes, c.me, c.draw, c.at, c.want)
	}
}

// toldTurns are the first turns, at least so many, in the chapter's words: one order behind the other, the draw handed on.
func toldTurns(nodes, me int, draw uint64, many int) []int {
	var l []int
	for len(l) < many {
		var next []int
		next, draw = toldOrder(nodes, me, draw)
		l = append(l, next...)
	}
	return l
}

// P14.3: over many rounds each turn is as the chapter's words have it.
func TestTurnAsTold(t *testing.T) {
	for i, d := range drawn(60) {
		for nodes := 2; nodes <= 9; nodes++ {
			me := i % nodes
			for at, want := range toldTurns(nodes, me, d, 100) {
				mustTurn(t, nodes, me, d, at, want)
			}
		}
	}
}

// P14.3: of each node's own turns the first rounds, with the ends of each: the last of a round, and the first of the next one.
func TestTurnAtEndsOfRounds(t *testing.T) {
	for _, d := range drawn(40) {
		for nodes := 2; nodes <= 9; nodes++ {
			for me := range nodes {
				first, behind := round.Order(nodes, me, d)
				second, _ := round.Order(nodes, me, behind)
				mustTurn(t, nodes, me, d, 0, first[0])
				mustTurn(t, nodes, me, d, nodes-2, first[nodes-2])
				mustTurn(t, nodes, me, d, nodes-1, second[0])
				mustTurn(t, nodes, me, d, 2*nodes-3, second[nodes-2])
			}
		}
	}
}

// P14.3: a turn behind rounds is the one of the draw behind them.
func TestTurnGoesOnBehindRounds(t *testing.T) {
	for nodes := 2; nodes <= 9; nodes++ {
		for me := range nodes {
			first := uint64(nodes * me)
			d := first
			for begin := 0; begin < 2000; begin += nodes - 1 {
				l, behind := round.Order(nodes, me, d)
				mustTurn(t, nodes, me, first, begin, l[0])
				mustTurn(t, nodes, me, first, begin+nodes-2, l[nodes-2])
				mustTurn(t, nodes, me, d, 0, l[0])
				d = behind
			}
		}
	}
}

// P14.3: places are 0 to 2^20; at others it is nobody's turn.
func TestTurnAtItsLimits(t *testing.T) {
	for nodes := 2; nodes <= 9; nodes++ {
		for _, me := range []int{0, nodes / 2, nodes - 1} {
			turns := toldTurns(nodes, me, 5, 10)
			mustTurn(t, nodes, me, 5, 0, turns[0])
			mustTurn(t, nodes, me, 5, 1, turns[1])
			mustTurn(t, nodes, me, 5, 9, turns[9])
			for _, at := range ends {
				if at < 0 || at > last {
					mustTurn(t, nodes, me, 5, at, -1)
				}
			}
			mustTurn(t, nodes, me, 5, last+1, -1)
			mustTurn(t, nodes, me, 5, last+nodes, -1)
			mustTurn(t, nodes, me, 5, 2*last, -1)
		}
	}
}

// P14.3: so it is at the last places, as the chapter's words have it, with the draw handed on by Order.
func TestTurnAtTheLastPlaces(t *testing.T) {
	for nodes := 2; nodes <= 9; nodes++ {
		me := nodes / 3
		var turns []int
		for d := uint64(nodes); len(turns) <= last; {
			l, behind := round.Order(nodes, me, d)
			turns, d = append(turns, l...), behind
		}
		for _, at := range []int{last - nodes, last - 2, last - 1, last, last / 2, last/2 + 1, last / 3} {
			mustTurn(t, nodes, me, uint64(nodes), at, turns[at])
		}
	}
}

// P14.3: the last places are told in good time, of however many nodes: far more than is needed is left for it.
func TestTurnInGoodTime(t *testing.T) {
	begin := time.Now()
	for i := range 24 {
		nodes := 2 + i%8
		if n := round.Turn(nodes, 0, uint64(i), last-i); n < 1 || n >= nodes {
			t.Errorf("%d nodes: %d", nodes, n)
		}
	}
	if took := time.Since(begin); took > 10*time.Second {
		t.Errorf("%v for 24 turns", took)
	}
}

// P14.3: it is nobody's turn where Order has no member: of one node alone, and of nodes and me that may not be.
func TestTurnOfNobody(t *testing.T) {
	places := append([]int{0, 1, 7, 8, 77, last, last + 1}, ends...)
	for _, d := range drawn(12) {
		for _, at := range places {
			mustTurn(t, 1, 0, d, at, -1)
			for _, nodes := range append([]int{0}, ends...) {
				for _, me := range []int{0, 1, 8, nodes - 1, nodes} {
					mustTurn(t, nodes, me, d, at, -1)
				}
			}
			for nodes := 1; nodes <= 9; nodes++ {
				for _, me := range append([]int{-1, nodes, nodes + 1}, ends...) {
					mustTurn(t, nodes, me, d, at, -1)
				}
			}
		}
	}
}

// P14.3: of two nodes it is always the other one's turn.
func TestTurnOfTwo(t *testing.T) {
	for _, d := range drawn(50) {
		for at := range 50 {
			mustTurn(t, 2, 0, d, at, 1)
			mustTurn(t, 2, 1, d, at, 0)
		}
	}
}

// P14.3: rounds follow one another in orders of their own: not all of many are alike.
func TestRoundsDiffer(t *testing.T) {
	for nodes := 3; nodes <= 9; nodes++ {
		orders := map[string]int{}
		for r := range 60 {
			var l []int
			for at := range nodes - 1 {
				l = append(l, round.Turn(nodes, 1, 3, r*(nodes-1)+at))
			}
			orders[written(l)]++
		}
		if len(orders) < 2 {
			t.Errorf("%d nodes: all rounds are alike", nodes)
		}
	}
}
