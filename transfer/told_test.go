package transfer_test

import (
	"math/big"
	"testing"
)

// toldRound are so many places, in the order in which they are gone round from a number on, modulo how many there are.
func toldRound(many int, n *big.Int) []int {
	var l []int
	if many == 0 {
		return nil
	}
	from := int(new(big.Int).Mod(n, big.NewInt(int64(many))).Int64())
	for i := from; i < many; i++ {
		l = append(l, i)
	}
	for i := range from {
		l = append(l, i)
	}
	return l
}

// toldPick is what the chapter's words say of a Pick, by numbers that know no end.
func toldPick(have []bool, peers [][]bool, draw uint64) picked {
	n := new(big.Int).SetUint64(draw)
	upper := new(big.Int).Div(n, big.NewInt(1<<32))
	for _, chunk := range toldRound(len(have), n) {
		if have[chunk] {
			continue
		}
		for _, peer := range toldRound(len(peers), upper) {
			if len(peers[peer]) > chunk && peers[peer][chunk] {
				return picked{chunk, peer, true}
			}
		}
	}
	return nothing
}

// P17.2: what stands here of the chapter's words tells of its examples what it says, and of some more what they say by hand.
func TestTold(t *testing.T) {
	for _, c := range []struct {
		have  string
		peers [][]bool
		draw  uint64
		want  picked
	}{
		{"100", lists("001"), 0, picked{2, 0, true}}, {"11", lists("11"), 0, nothing}, {"000", nil, 0, nothing}, {"", lists("1"), 0, nothing},
		{"000", lists("111", "1"), 2, picked{2, 0, true}}, {"000", lists("111", "1"), 1<<32 + 1, picked{2, 0, true}},
		{"000", lists("111", "1"), 1<<32 + 2, picked{0, 1, true}}, {"000", lists("111", "1"), 1 << 33, picked{2, 0, true}},
	} {
		if got := toldPick(bools(c.have), c.peers, c.draw); got != c.want {
			t.Errorf("of %s by %d, from %v: %v instead of %v", c.have, c.draw, c.peers, got, c.want)
		}
		mustPick(t, bools(c.have), c.peers, c.draw, c.want)
	}
}

// P17.2: each list of few chunks, with each two lists of peers, by each place to begin at, held against the chapter's words.
func TestEachPickAsTold(t *testing.T) {
	each := everyList(4)
	var peers [][][]bool
	peers = append(peers, nil)
	for _, a := range each {
		peers = append(peers, [][]bool{a})
		for _, b := range each {
			peers = append(peers, [][]bool{a, b})
		}
	}
	is := 0
	for _, have := range everyList(3) {
		for _, p := range peers {
			for from := range uint64(3) {
				for who := range uint64(2) {
					draw := who<<32 + from
					want := toldPick(have, p, draw)
					mustPick(t, have, p, draw, want)
					if want.is {
						is++
					}
				}
			}
		}
	}
	if is < 10000 {
		t.Errorf("just %d are picked", is)
	}
}

// P17.2: lists of all lengths, by draws of all kinds, held against the chapter's words.
func TestPicksAsTold(t *testing.T) {
	k := uint64(17)
	is, behind, first := 0, 0, 0
	for range 60000 {
		have := drawnList(&k, 70, 1+chance(&k, 10))
		peers := make([][]bool, chance(&k, 11))
		for i := range peers {
			peers[i] = drawnList(&k, 80, 1+chance(&k, 40))
		}
		draw := drawnDraw(&k, len(have), len(peers))
		want := toldPick(have, peers, draw)
		mustPick(t, have, peers, draw, want)
		if want.is {
			is++
			behind += count([]bool{uint64(want.chunk) < draw%uint64(len(have))})
			first += count([]bool{uint64(want.peer) < draw>>32%uint64(len(peers))})
		}
	}
	if is < 20000 || behind < 2000 || first < 2000 {
		t.Errorf("just %d are picked, %d chunks and %d peers past the end", is, behind, first)
	}
}

// drawnList is a list of fewer bools than so many, one of some of which is true.
func drawnList(k *uint64, below, some int) []bool {
	l := make([]bool, chance(k, 1+chance(k, below)))
	for i := range l {
		l[i] = chance(k, some) == 0
	}
	return l
}

// drawnDraw is a draw of all bits, or one that means something to so many chunks and peers.
func drawnDraw(k *uint64, chunks, peers int) uint64 {
	if l := draws(chunks, peers); chance(k, 2) == 0 {
		return l[chance(k, len(l))]
	}
	chance(k, 2)
	return *k ^ *k<<32
}
