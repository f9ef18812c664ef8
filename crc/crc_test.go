package crc_test

import (
	"bytes"
	"hash/crc32"
	"math"
	"slices"
	"testing"

	"shipwright/crc"
)

var library = crc32.MakeTable(crc32.Castagnoli)

// startSums are sums to go on from: the ends, one bit each, and some of all kinds.
func startSums() []uint32 {
	l := []uint32{0, 1, 2, 77, 0xE3069283, 0x82F63B78, ^uint32(0x82F63B78), math.MaxInt32, 1 << 31, math.MaxUint32 - 1, math.MaxUint32}
	for i := range 32 {
		l = append(l, 1<<i, ^uint32(1<<i))
	}
	for _, b := range text(20) {
		l = append(l, uint32(b)*0x01030709+l[len(l)-1])
	}
	return l
}

// edges are lengths of none, of few, and of those around powers of two.
var edges = []int{0, 1, 2, 3, 4, 5, 7, 8, 9, 15, 16, 17, 31, 32, 33, 63, 64, 65, 255, 256, 257, 1000, 4095, 4096, 4097}

// text has n bytes of all kinds, without a random source.
func text(n int) []byte {
	b := make([]byte, n)
	x := uint64(n) + 1
	for i := range b {
		x = x*6364136223846793005 + 1442695040888963407
		b[i] = byte(x >> 56)
	}
	return b
}

// bitByBit says P4.1 in the chapter's words.
func bitByBit(sum uint32, b []byte) uint32 {
	n := ^sum
	for _, c := range b {
		n ^= uint32(c)
		for range 8 {
			out := n & 1
			n >>= 1
			if out == 1 {
				n ^= 0x82F63B78
			}
		}
	}
	return ^n
}

// rising has n bytes from first on, each by more than the one ahead of it.
func rising(first byte, by int, n int) []byte {
	b := make([]byte, n)
	for i := range b {
		b[i] = first + byte(i*by)
	}
	return b
}

// P4.1: sums that are known, those of RFC 3720 (B.4) among them.
func TestKnownSums(t *testing.T) {
	readCommand := []byte{
		0x01, 0xC0, 0, 0, 0, 0, 0, 0, 0, 0, 0, 0, 0, 0, 0, 0, 0x14, 0, 0, 0, 0, 0, 0x04, 0,
		0, 0, 0, 0x14, 0, 0, 0, 0x18, 0x28, 0, 0, 0, 0, 0, 0, 0, 0x02, 0, 0, 0, 0, 0, 0, 0,
	}
	for _, c := range []struct {
		text []byte
		want uint32
	}{
		{[]byte("123456789"), 0xE3069283},
		{nil, 0},
		{[]byte{}, 0},
		{[]byte("a"), 0xC1D04330},
		{[]byte("abc"), 0x364B3FB7},
		{[]byte("The quick brown fox jumps over the lazy dog"), 0x22620404},
		{[]byte{0}, 0x527D5351},
		{[]byte{255}, 0xFF000000},
		{[]byte{0, 0, 0, 0}, 0x48674BC7},
		{[]byte{255, 255, 255, 255}, 0xFFFFFFFF},
		{make([]byte, 32), 0x8A9136AA},
		{bytes.Repeat([]byte{255}, 32), 0x62A8AB43},
		{rising(0, 1, 32), 0x46DD794E},
		{rising(31, -1, 32), 0x113FDB5C},
		{readCommand, 0xD9963A56},
	} {
		if n := crc.Sum(c.text); n != c.want {
			t.Errorf("of %d bytes, %q: %X, want %X", len(c.text), c.text, n, c.want)
		}
	}
}

// P4.1: each byte alone, from sums 0 and others.
func TestEachByte(t *testing.T) {
	for i := range 256 {
		b := []byte{byte(i)}
		if n, want := crc.Sum(b), bitByBit(0, b); n != want {
			t.Errorf("of the byte %d: %X, want %X", i, n, want)
		}
		for _, sum := range startSums() {
			if n, want := crc.More(sum, b), bitByBit(sum, b); n != want {
				t.Errorf("the byte %d behind %X: %X, want %X", i, sum, n, want)
			}
		}
	}
}

// P4.1: every length through the first blocks, and the edges, from all sums, as the chapter says it and as the library does.
func TestSumsOfAllLengths(t *testing.T) {
	lengths := slices.Clone(edges)
	for n := range 200 {
		lengths = append(lengths, n)
	}
	for _, size := range lengths {
		for _, b := range [][]byte{text(size), make([]byte, size), bytes.Repeat([]byte{255}, size), bytes.Repeat([]byte{128}, size), bytes.Repeat([]byte{1}, size)} {
			want := bitByBit(0, b)
			if n := crc.Sum(b); n != want || n != crc32.Checksum(b, library) {
				t.Errorf("of %d bytes: %X, want %X", size, n, want)
			}
			for _, sum := range startSums()[:11] {
				want := bitByBit(sum, b)
				if n := crc.More(sum, b); n != want || n != crc32.Update(sum, library, b) {
					t.Errorf("%d bytes behind %X: %X, want %X", size, sum, n, want)
				}
			}
		}
	}
}

// P4.1: a text of many bytes.
func TestSumOfManyBytes(t *testing.T) {
	b := text(1<<22 + 13)
	if n, want := crc.Sum(b), crc32.Checksum(b, library); n != want {
		t.Errorf("of %d bytes: %X, want %X", len(b), n, want)
	}
}

// P4.1: Sum is More from 0 on.
func TestSumIsMoreFrom0(t *testing.T) {
	for _, size := range edges {
		if b := text(size); crc.Sum(b) != crc.More(0, b) {
			t.Errorf("of %d bytes: %X, and %X", size, crc.Sum(b), crc.More(0, b))
		}
	}
}

// P4.1: no byte leaves each sum as it is.
func TestNoByte(t *testing.T) {
	full := text(10)
	for _, b := range [][]byte{nil, {}, full[:0], full[10:]} {
		if n := crc.Sum(b); n != 0 {
			t.Errorf("of no byte: %X", n)
		}
		for _, sum := range startSums() {
			if n := crc.More(sum, b); n != sum {
				t.Errorf("no byte behind %X: %X", sum, n)
			}
		}
	}
}

// P4.1: each bit of a text, its order and its length are told by its sum.
func TestSumTellsTextsApart(t *testing.T) {
	for _, size := range []int{1, 2, 9, 64, 300} {
		b := text(size)
		seen := map[uint32]bool{crc.Sum(b): true}
		for i := range 8 * size {
			b[i/8] ^= 1 << (i % 8)
			if n := crc.Sum(b); seen[n] {
				t.Errorf("of %d bytes, the bit %d changed: %X was there", size, i, n)
			} else {
				seen[n] = true
			}
			b[i/8] ^= 1 << (i % 8)
		}
	}
	if crc.Sum([]byte("ab")) == crc.Sum([]byte("ba")) {
		t.Error("ab has the sum of ba")
	}
	zeros := map[uint32]int{}
	for size := range 200 {
		zeros[crc.Sum(make([]byte, size))]++
	}
	if len(zeros) != 200 {
		t.Errorf("200 lengths of bytes 0 have %d sums", len(zeros))
	}
}

// P4.2: cut in two at every place, and in three at many.
func TestMoreGoesOn(t *testing.T) {
	for _, size := range []int{0, 1, 2, 9, 63, 64, 65, 300} {
		b := text(size)
		for _, sum := range startSums()[:11] {
			want := bitByBit(sum, b)
			for i := range size + 1 {
				ahead := crc.More(sum, b[:i])
				if n := crc.More(ahead, b[i:]); n != want {
					t.Errorf("%d bytes behind %X, cut at %d: %X, want %X", size, sum, i, n, want)
				}
				for j := i; j <= size; j += 1 + size/10 {
					if n := crc.More(crc.More(ahead, b[i:j]), b[j:]); n != want {
						t.Errorf("%d bytes behind %X, cut at %d and %d: %X, want %X", size, sum, i, j, n, want)
					}
				}
			}
		}
	}
}

// P4.2: in parts of one length each, with nil and empty ones between.
func TestMoreOfManyParts(t *testing.T) {
	for _, size := range edges {
		b := text(size)
		for _, part := range []int{1, 2, 3, 7, 8, 64, 100} {
			sum := crc.Sum(nil)
			for p := range slices.Chunk(b, part) {
				sum = crc.More(crc.More(crc.More(sum, p), nil), []byte{})
			}
			if want := crc.Sum(b); sum != want {
				t.Errorf("%d bytes, in parts of %d: %X, want %X", size, part, sum, want)
			}
		}
	}
}

// changedBy is a text, changed by one as long.
func changedBy(a, b []byte) []byte {
	c := slices.Clone(a)
	for i := range c {
		c[i] ^= b[i]
	}
	return c
}

// P4.2: texts as long, changed by one another.
func TestChangedByOneAnother(t *testing.T) {
	for _, size := range edges {
		zeros := make([]byte, size)
		texts := [][]byte{zeros, text(size), rising(3, 5, size), bytes.Repeat([]byte{255}, size), text(size + 9)[9:]}
		for i, a := range texts {
			for j, b := range texts {
				want := crc.Sum(a) ^ crc.Sum(b) ^ crc.Sum(zeros)
				if n := crc.Sum(changedBy(a, b)); n != want {
					t.Errorf("the texts %d and %d of %d bytes: %X, want %X", i, j, size, n, want)
				}
			}
		}
	}
}

// P4.2: one byte changed by one, at every place of a text.
func TestOneByteChanged(t *testing.T) {
	b := text(64)
	zeros := crc.Sum(make([]byte, 64))
	for i := range b {
		for _, by := range []byte{1, 16, 128, 255} {
			mark := make([]byte, 64)
			mark[i] = by
			if n, want := crc.Sum(changedBy(b, mark)), crc.Sum(b)^crc.Sum(mark)^zeros; n != want {
				t.Errorf("the byte %d, changed by %d: %X, want %X", i, by, n, want)
			}
		}
	}
}

// R4: what is handed in is not changed, nor is its spare room, and the spare room is not read.
func TestNothingIsChanged(t *testing.T) {
	for _, size := range edges {
		room := text(size + 20)
		was := slices.Clone(room)
		b := room[4 : 4+size]
		sum, more := crc.Sum(b), crc.More(77, b)
		if !bytes.Equal(room, was) {
			t.Errorf("%d bytes are others by now", size)
		}
		if tight := slices.Clip(slices.Clone(b)); crc.Sum(tight) != sum || crc.More(77, tight) != more {
			t.Errorf("the room around %d bytes is told", size)
		}
	}
}

// R4, R5: what was handed in is not kept: later sums are as if nothing had been summed ahead of them.
func TestNothingIsKept(t *testing.T) {
	for _, size := range edges {
		b, c := text(size), rising(1, 3, size)
		sumB, sumC := bitByBit(0, b), bitByBit(0, c)
		moreB, moreC := bitByBit(sumC, b), bitByBit(sumB, c)
		for range 3 {
			if n, m := crc.Sum(b), crc.More(sumC, b); n != sumB || m != moreB {
				t.Errorf("of %d bytes: %X and %X, want %X and %X", size, n, m, sumB, moreB)
			}
			if n, m := crc.More(sumB, c), crc.Sum(c); n != moreC || m != sumC {
				t.Errorf("of %d others: %X and %X, want %X and %X", size, n, m, moreC, sumC)
			}
		}
		copy(b, c)
		if n := crc.Sum(b); n != sumC {
			t.Errorf("of %d bytes, that were others: %X, want %X", size, n, sumC)
		}
	}
}
