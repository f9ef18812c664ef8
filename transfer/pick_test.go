package transfer_test

import (
	"math"
	"testing"
)

// P17.2: of none, and of all that are there, nothing is picked, whatever peers have, and whatever is drawn.
func TestNothingIsMissing(t *testing.T) {
	for _, have := range [][]bool{nil, {}, bools("1"), bools("11"), bools("1111"), all(64, true)} {
		for _, peers := range [][][]bool{nil, {}, {nil}, lists("1"), lists("0"), lists("", "11111"), {all(64, true), all(65, true)}} {
			for _, draw := range draws(len(have), len(peers)) {
				mustPick(t, have, peers, draw, nothing)
			}
		}
	}
}

// draws are such as mean something to so many chunks and peers, and the greatest of all.
func draws(chunks, peers int) []uint64 {
	l := []uint64{0, 1, 1<<32 - 1, 1 << 32, 1<<32 + 1, 1 << 33, 1<<63 - 1, 1 << 63, 1<<63 + 1, math.MaxUint64 - 1<<32, math.MaxUint64 - 1, math.MaxUint64}
	for _, n := range []int{chunks, peers} {
		for _, x := range []uint64{uint64(n), uint64(2 * n)} {
			l = append(l, x-1, x, x+1, x<<32-1, x<<32, x<<32+1, (x-1)<<32, (x-1)<<32+x, (x+1)<<32)
		}
	}
	return l
}

// P17.2: where nobody has what is missing nothing is picked: no peers; lists that are none, shorter than have, longer than it; true only beyond its end, and only where it is true.
func TestNobodyHasIt(t *testing.T) {
	for _, c := range []struct {
		have  []bool
		peers [][]bool
	}{
		{bools("0"), nil}, {bools("000"), nil}, {bools("000"), [][]bool{}}, {all(64, false), nil},
		{bools("0"), lists("")}, {bools("000"), lists("")}, {bools("000"), lists("", "", "")}, {bools("000"), [][]bool{{}, nil}},
		{bools("000"), lists("0")}, {bools("000"), lists("000")}, {bools("000"), lists("00000", "0")},
		{bools("0"), lists("01")}, {bools("000"), lists("0001")}, {bools("000"), lists("00011111", "0000001", "")},
		{bools("110"), lists("11")}, {bools("110"), lists("110")}, {bools("110"), lists("1101")}, {bools("011"), lists("0111", "01", "001")},
		{bools("101"), lists("101", "1", "10", "10111111")}, {bools("10"), lists("101")}, {but(all(64, true), 63), [][]bool{all(63, true)}}, {but(all(64, true), 0), [][]bool{but(all(70, true), 0)}},
	} {
		for _, draw := range draws(len(c.have), len(c.peers)) {
			mustPick(t, c.have, c.peers, draw, nothing)
		}
	}
}

// P17.2: the place from which chunks are gone round is the draw, modulo how many there are, at each of its ends; what is above 2^32 counts, too.
func TestChunksBeginAtDraw(t *testing.T) {
	for _, c := range []struct {
		many int
		draw uint64
		want int
	}{
		{1, 0, 0}, {1, 1, 0}, {1, math.MaxUint64, 0},
		{3, 0, 0}, {3, 1, 1}, {3, 2, 2}, {3, 3, 0}, {3, 4, 1}, {3, 300, 0}, {3, 1<<32 - 1, 0}, {3, 1 << 32, 1}, {3, 1<<32 + 1, 2}, {3, 1 << 33, 2}, {3, 3 << 32, 0}, {3, 1 << 63, 2}, {3, math.MaxUint64, 0}, {3, math.MaxUint64 - 1, 2},
		{7, 6, 6}, {7, 7, 0}, {7, 1<<32 - 1, 3}, {7, 1 << 32, 4}, {7, 5 << 32, 6}, {7, math.MaxUint64, 1},
		{64, 63, 63}, {64, 64, 0}, {64, 1<<32 - 1, 63}, {64, 1 << 32, 0}, {64, 1<<63 + 5, 5}, {64, math.MaxUint64, 63},
		{100, 99, 99}, {100, 1 << 32, 96}, {100, math.MaxUint64, 15},
	} {
		for _, more := range []int{0, 1, 5} {
			mustPick(t, all(c.many, false), [][]bool{all(c.many+more, true)}, c.draw, picked{c.want, 0, true})
		}
	}
}

// P17.2: the place from which peers are gone round is the draw, divided by 2^32, modulo how many there are, at each of its ends; what is below 2^32 does not count.
func TestPeersBeginAtDraw(t *testing.T) {
	for _, c := range []struct {
		many int
		draw uint64
		want int
	}{
		{1, 0, 0}, {1, 1 << 32, 0}, {1, math.MaxUint64, 0},
		{2, 0, 0}, {2, 1, 0}, {2, 1<<32 - 1, 0}, {2, 1 << 32, 1}, {2, 1<<33 - 1, 1}, {2, 1 << 33, 0}, {2, 3 << 32, 1}, {2, 1 << 63, 0}, {2, math.MaxUint64, 1},
		{3, 1<<32 - 1, 0}, {3, 1 << 32, 1}, {3, 2<<32 - 1, 1}, {3, 2 << 32, 2}, {3, 3<<32 - 1, 2}, {3, 3 << 32, 0}, {3, 4 << 32, 1}, {3, 1 << 63, 2}, {3, math.MaxUint64, 0},
		{9, 8 << 32, 8}, {9, 9<<32 - 1, 8}, {9, 9 << 32, 0}, {9, 10<<32 + 5, 1}, {9, math.MaxUint64, 3}, {9, math.MaxUint64 - 1<<32, 2},
		{100, 99<<32 + 99, 99}, {100, 100 << 32, 0}, {100, math.MaxUint64, 95},
	} {
		peers := make([][]bool, c.many)
		for i := range peers {
			peers[i] = bools("1")
		}
		mustPick(t, bools("0"), peers, c.draw, picked{0, c.want, true})
		// Of more chunks than one the last one alone is missing: it is another one that is first, and yet the same peer.
		for i := range peers {
			peers[i] = bools("11111")
		}
		mustPick(t, bools("11110"), peers, c.draw, picked{4, c.want, true})
	}
}

// P17.2: which one is first hangs on where going round begins: each one is, up to and with its own place, and behind it the next one, past the end.
func TestChunksAreGoneRound(t *testing.T) {
	for _, c := range []struct {
		have, peer string
		wants      []int // from each place on
	}{
		{"00000", "11111", []int{0, 1, 2, 3, 4}}, {"01111", "11111", []int{0, 0, 0, 0, 0}}, {"11110", "11111", []int{4, 4, 4, 4, 4}},
		{"00000", "10000", []int{0, 0, 0, 0, 0}}, {"00000", "00001", []int{4, 4, 4, 4, 4}}, {"00000", "1", []int{0, 0, 0, 0, 0}}, {"00000", "00100000", []int{2, 2, 2, 2, 2}},
		{"10101", "11111", []int{1, 1, 3, 3, 1}}, {"00000", "01010", []int{1, 1, 3, 3, 1}}, {"00000", "0101", []int{1, 1, 3, 3, 1}}, {"10010", "01011", []int{1, 1, 4, 4, 4}},
		{"01110", "1111111", []int{0, 4, 4, 4, 4}}, {"00001", "10011", []int{0, 3, 3, 3, 0}}, {"00000", "11100", []int{0, 1, 2, 0, 0}},
	} {
		for from, want := range c.wants {
			for _, rounds := range []uint64{0, 1, 7, 1<<32 - 1, 1 << 61} {
				draw := uint64(from) + 5*rounds
				mustPick(t, bools(c.have), lists(c.peer), draw, picked{want, 0, true})
				mustPick(t, bools(c.have), lists(c.peer, "", "0000011"), draw, picked{want, 0, true})
			}
		}
	}
}

// P17.2: so it is with peers: from each place on the next one who has the chunk is asked, past the end.
func TestPeersAreGoneRound(t *testing.T) {
	for _, c := range []struct {
		peers [][]bool
		wants []int // from each place on
	}{
		{lists("111", "111", "111", "111"), []int{0, 1, 2, 3}},
		{lists("001", "", "", ""), []int{0, 0, 0, 0}}, {lists("", "11", "110", "001"), []int{3, 3, 3, 3}},
		{lists("11", "001", "110111", "0011"), []int{1, 1, 3, 3}}, {lists("001", "1101", "111", "0"), []int{0, 2, 2, 0}}, {lists("0010", "0", "1", "001"), []int{0, 3, 3, 3}},
	} {
		for from, want := range c.wants {
			for _, draw := range []uint64{0, 1, 2, 1<<32 - 1} {
				for _, rounds := range []uint64{0, 1, 1<<30 - 1} {
					mustPick(t, bools("110"), c.peers, uint64(from)<<32+rounds*4<<32+draw, picked{2, want, true})
				}
			}
		}
	}
}

// P17.2: the chunk comes first, by all peers: one who is first from the draw on, and has a later one alone, is not asked for that.
func TestChunkComesAheadOfPeer(t *testing.T) {
	peers := lists("0001", "0100", "0010")
	mustPick(t, bools("1000"), peers, 0, picked{1, 1, true})
	mustPick(t, bools("1000"), peers, 1<<32, picked{1, 1, true})
	mustPick(t, bools("1000"), peers, 2<<32, picked{1, 1, true})
	mustPick(t, bools("1000"), peers, 2, picked{2, 2, true})
	mustPick(t, bools("1000"), peers, 1<<32+3, picked{3, 0, true})
	mustPick(t, bools("1100"), peers, 1<<32+1, picked{2, 2, true})
}

// P17.2: lists of peers have any length of their own: each is gone through as far as it goes, and as have goes.
func TestListsOfPeersHaveAnyLength(t *testing.T) {
	peers := lists("", "1", "01", "001", "0001", "000000001")
	for from, want := range []picked{{0, 1, true}, {1, 2, true}, {2, 3, true}, {3, 4, true}} {
		mustPick(t, bools("0000"), peers, uint64(from), want)
	}
	mustPick(t, bools("000"), peers, 3, picked{0, 1, true})
	mustPick(t, bools("0"), peers, 5<<32, picked{0, 1, true})
	mustPick(t, all(9, false), peers, 4, picked{8, 5, true})
	mustPick(t, all(8, false), peers, 4, picked{0, 1, true})
}

// P17.2: of each missing one at either end of as many chunks as an image may have.
func TestOneIsMissingAtEitherEnd(t *testing.T) {
	for _, many := range []int{1, 2, 3, 63, 64} {
		for _, i := range []int{0, many - 1} {
			for _, draw := range draws(many, 1) {
				mustPick(t, but(all(many, true), i), [][]bool{all(many, true)}, draw, picked{i, 0, true})
				mustPick(t, but(all(many, true), i), [][]bool{but(all(many, false), i)}, draw, picked{i, 0, true})
				mustPick(t, but(all(many, true), i), [][]bool{but(all(many, true), i)}, draw, nothing)
			}
		}
	}
}

// R1, P17.2: of many chunks and many peers, of whom just the last one has just the last one, that alone is picked, and it does not take as many steps as both multiplied.
func TestManyChunksAndPeers(t *testing.T) {
	const many = 1 << 18
	have, peers := all(many, false), make([][]bool, many)
	mustPick(t, have, peers, 5, nothing)
	peers[many-1] = but(have, many-1)
	mustPick(t, have, peers, 0, picked{many - 1, many - 1, true})
	mustPick(t, have, peers, math.MaxUint64, picked{many - 1, many - 1, true})
}
