package round_test

import (
	"slices"
	"testing"

	"shipwright/round"
)

// turnsOf are the first turns, so many, each asked for by its place.
func turnsOf(nodes, me int, draw uint64, many int) []int {
	l := make([]int, many)
	for at := range l {
		l[at] = round.Turn(nodes, me, draw, at)
	}
	return l
}

// P14.4: within each round each other node has its turn once.
func TestEachInEachRound(t *testing.T) {
	for i, d := range drawn(60) {
		for nodes := 2; nodes <= 9; nodes++ {
			me := i % nodes
			for r := range slices.Chunk(turnsOf(nodes, me, d, 50*(nodes-1)), nodes-1) {
				slices.Sort(r)
				if !slices.Equal(r, others(nodes, me)) {
					t.Errorf("%d nodes, %d, draw %d: a round of %v in all", nodes, me, d, r)
				}
			}
		}
	}
}

// P14.4: between two turns of one there are at most twice as many as others, less two; and so many there are at times: first in a round, and last in the next one.
func TestNobodyWaitsLong(t *testing.T) {
	for nodes := 2; nodes <= 9; nodes++ {
		longest, bound := 0, 2*(nodes-1)-2
		for i, d := range drawn(100) {
			me := i % nodes
			before := map[int]int{}
			for at, n := range turnsOf(nodes, me, d, 40*(nodes-1)) {
				if was, ok := before[n]; ok {
					longest = max(longest, at-was-1)
				}
				before[n] = at
			}
		}
		if longest != bound {
			t.Errorf("%d nodes: at most %d turns between two of one, instead of %d", nodes, longest, bound)
		}
	}
}

// P14.4: whoever begins to ask, at whatever place, has asked each other one behind twice as many turns as others, less one.
func TestAllAreAskedSoon(t *testing.T) {
	for i, d := range drawn(30) {
		for nodes := 2; nodes <= 9; nodes++ {
			me := i % nodes
			turns := turnsOf(nodes, me, d, 20*(nodes-1))
			soon := 2*(nodes-1) - 1
			for begin := 0; begin+soon <= len(turns); begin++ {
				asked := slices.Clone(turns[begin : begin+soon])
				slices.Sort(asked)
				if asked = slices.Compact(asked); !slices.Equal(asked, others(nodes, me)) {
					t.Errorf("%d nodes, %d, draw %d, from %d on: just %v are asked", nodes, me, d, begin, asked)
				}
			}
		}
	}
}
