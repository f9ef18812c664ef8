package transfer_test

import (
	"math"
	"slices"
	"testing"

	"shipwright/api"
	"shipwright/transfer"
)

// roomy is a list with spare room, that holds chunks that are there and such as are not; whole is all of it.
func roomy(l []bool) (own, whole []bool) {
	whole = slices.Concat(l, bools("1101"))
	return whole[:len(l)], whole
}

// roomyLists are lists each of which is roomy, and in whose own spare room another list stands, of all that may be missing; wholes are all of each, and of that.
func roomyLists(l [][]bool) (own, wholes [][]bool) {
	for _, x := range l {
		one, whole := roomy(x)
		own, wholes = append(own, one), append(wholes, whole)
	}
	other := all(70, true)
	own, wholes = append(own, other), append(wholes, other)
	return own[:len(l)], wholes
}

// spoil turns over all of a list, its spare room with it.
func spoil(l []bool) {
	l = l[:cap(l)]
	for i := range l {
		l[i] = !l[i]
	}
}

// spoilBytes changes all of some bytes, their spare room with them.
func spoilBytes(b []byte) {
	b = b[:cap(b)]
	for i := range b {
		b[i] ^= 0x55
	}
}

// answer is a call that answers a list.
type answer struct {
	why  string
	call func() []bool
}

// taken is what Take answers.
func taken(m api.Manifest, have []bool, i int, b []byte) func() []bool {
	return func() []bool {
		got, _ := transfer.Take(m, have, i, b)
		return got
	}
}

// answers are all calls that answer a list, of what is handed in: such as do something, and such as answer have as it was, for each reason.
func answers(m, bad api.Manifest, have, short, none []bool, image, beginning []byte) []answer {
	return []answer{
		{"None", func() []bool { return transfer.None(m) }},
		{"None of no manifest", func() []bool { return transfer.None(bad) }},
		{"None of none", func() []bool { return transfer.None(api.Manifest{}) }},
		{"Find", func() []bool { return transfer.Find(m, image) }},
		{"Find of a beginning", func() []bool { return transfer.Find(m, beginning) }},
		{"Find of no bytes", func() []bool { return transfer.Find(m, nil) }},
		{"Find of no manifest", func() []bool { return transfer.Find(bad, image) }},
		{"Take", taken(m, have, 1, image[4:8])},
		{"Take of the last one", taken(m, have, 2, image[8:])},
		{"Take of one that is there", taken(m, have, 0, image[:4])},
		{"Take of another one", taken(m, have, 1, image[:4])},
		{"Take of no chunk", taken(m, have, 3, image[:4])},
		{"Take below 0", taken(m, have, -1, image[:4])},
		{"Take of no bytes", taken(m, have, 1, nil)},
		{"Take of another length", taken(m, short, 1, image[4:8])},
		{"Take of another length, and another one", taken(m, short, 1, image[:4])},
		{"Take of none", taken(m, none, 1, image[4:8])},
		{"Take of no manifest", taken(bad, have, 1, image[4:8])},
	}
}

// handed is what the calls of these tests are handed: each part with spare room, and all of it.
type handed struct {
	m, bad                 api.Manifest
	have, short, none      []bool
	whole, shorts, nothing []bool
	image, bytes           []byte
	digests                [][32]byte
}

// hand is such, in memory of its own.
func hand(t *testing.T) handed {
	m, _ := build(t, text(10), 4)
	h := handed{m: m}
	h.digests = slices.Concat(m.Chunks, [][32]byte{{1}, {2}})
	h.m.Chunks = h.digests[:3]
	h.bad = h.m
	h.bad.Chunks = h.digests[:2]
	h.bytes = append(text(10), 7, 7, 7)
	h.image = h.bytes[:10]
	h.have, h.whole = roomy(bools("100"))
	h.short, h.shorts = roomy(bools("10"))
	h.none, h.nothing = roomy(nil)
	return h
}

// calls are all calls of what is handed.
func (h handed) calls() []answer {
	return answers(h.m, h.bad, h.have, h.short, h.none, h.image, h.image[:9])
}

// same tells whether what was handed in is as it was.
func (h handed) same(was handed) bool {
	return slices.Equal(h.whole, was.whole) && slices.Equal(h.shorts, was.shorts) && slices.Equal(h.nothing, was.nothing) && slices.Equal(h.bytes, was.bytes) && slices.Equal(h.digests, was.digests)
}

// spoil changes all that was handed in.
func (h handed) spoil() {
	spoil(h.whole)
	spoil(h.shorts)
	spoil(h.nothing)
	spoilBytes(h.bytes)
	for i := range h.digests {
		spoilBytes(h.digests[i][:])
	}
}

// wants are what the calls answer, told by hand.
var wants = []string{"000", "00", "", "111", "110", "000", "", "110", "101", "100", "100", "100", "100", "100", "10", "10", "", "100"}

// R4: what is handed in is not changed, its spare room included, and the calls answer what they should.
func TestNothingIsChanged(t *testing.T) {
	h, was := hand(t), hand(t)
	for i, a := range h.calls() {
		if got := a.call(); !slices.Equal(got, bools(wants[i])) {
			t.Errorf("%s: %v instead of %s", a.why, got, wants[i])
		}
		if !h.same(was) {
			t.Errorf("%s changed what was handed in", a.why)
		}
	}
	if len(h.calls()) != len(wants) {
		t.Errorf("%d are wanted of %d calls", len(wants), len(h.calls()))
	}
}

// R4: an answer stays when what was handed in is changed later, and what was handed in when the answer is, spare room too.
func TestNothingIsKept(t *testing.T) {
	for i := range hand(t).calls() {
		h, was := hand(t), hand(t)
		a := h.calls()[i]
		got, other := a.call(), a.call()
		spoil(got)
		_ = append(got, true)
		if !h.same(was) {
			t.Errorf("%s: an answer shares memory with what was handed in", a.why)
		}
		h.spoil()
		if !slices.Equal(other, bools(wants[i])) {
			t.Errorf("%s: %v instead of %s, behind a change of what was handed in", a.why, other, wants[i])
		}
	}
}

// R4: no two answers share memory, of one call or of two.
func TestAnswersAreApart(t *testing.T) {
	h := hand(t)
	for _, a := range h.calls() {
		for i, b := range h.calls() {
			first, second := a.call(), b.call()
			spoil(first)
			spoil(append(first, true))
			for _, got := range [][]bool{second, b.call()} {
				if !slices.Equal(got, bools(wants[i])) {
					t.Errorf("%s, beside a changed answer of %s: %v instead of %s", b.why, a.why, got, wants[i])
				}
			}
		}
	}
}

// R4: Pick changes neither have nor lists of peers, nor reads what lies in the spare room of each, and of all of them.
func TestPickLeavesSpareRoom(t *testing.T) {
	for _, c := range []struct {
		have  []bool
		peers [][]bool
	}{
		{bools("000"), nil}, {bools("000"), lists("")}, {bools("000"), lists("0", "00")}, {bools("110"), lists("11", "110")},
		{bools("000"), lists("01", "001")}, {nil, lists("111")}, {bools("11"), lists("1100")}, {bools("100"), lists("", "", "011")},
	} {
		have, whole := roomy(c.have)
		peers, wholes := roomyLists(c.peers)
		was, wasLists := slices.Clone(whole), ownLists(wholes)
		for _, draw := range draws(len(c.have), len(c.peers)) {
			want := toldPick(c.have, c.peers, draw)
			mustPick(t, have, peers, draw, want)
		}
		if !slices.Equal(whole, was) || !sameLists(wholes, wasLists) || !sameLists(peers[:len(wholes)], append(ownLists(peers), all(70, true))) {
			t.Errorf("Pick of %v, from %v changed what lies in their spare room", c.have, c.peers)
		}
	}
}

// R4, R5: lists that lie in one memory are picked from as if they did not: have and each peer's may be the same one.
func TestListsMayBeTheSame(t *testing.T) {
	one := bools("0101011")
	mustPick(t, one, [][]bool{one, one}, 3, nothing)
	mustPick(t, one[:3], [][]bool{one[1:], one[3:], one[:3]}, 0, picked{0, 0, true})
	mustPick(t, one[:3], [][]bool{one[1:], one[3:], one[:3]}, 1, picked{2, 0, true})
	mustPick(t, one[:3], [][]bool{one[3:], one[:3], one[1:]}, 1<<32+1, picked{2, 2, true})
}

// R5: a call answers by its arguments alone, whatever went ahead of it, and whatever room lies behind them.
func TestAnswersHangOnArgumentsAlone(t *testing.T) {
	h := hand(t)
	for range 3 {
		for _, ahead := range h.calls() {
			for i, a := range h.calls() {
				ahead.call()
				transfer.Pick(h.have, [][]bool{h.whole}, math.MaxUint64)
				if got := a.call(); !slices.Equal(got, bools(wants[i])) {
					t.Errorf("%s behind %s: %v instead of %s", a.why, ahead.why, got, wants[i])
				}
				mustPick(t, bools("000"), lists("011", "001"), 1<<32, picked{1, 0, true})
				mustCount(t, h.have, 2, false)
			}
		}
	}
	wide := slices.Grow(bools("000"), 50)
	mustPick(t, wide, [][]bool{slices.Grow(bools("011"), 99), slices.Clip(bools("001"))}, 1<<32, picked{1, 0, true})
	mustTake(t, "wide", h.m, slices.Grow(bools("100"), 50), 1, slices.Grow(h.image[4:8], 50), api.OK)
	mustTake(t, "tight", h.m, slices.Clip(bools("100")), 1, slices.Clip(slices.Clone(h.image[4:8])), api.OK)
}
