package transfer_test

import (
	"fmt"
	"slices"
	"testing"

	"shipwright/api"
)

// P17.3: an image itself has all its chunks, and so has one with more bytes behind it.
func TestFindTheImage(t *testing.T) {
	for _, s := range shapes {
		image := text(s.size)
		m, chunks := build(t, image, s.chunk)
		mustFind(t, "itself", m, image, all(len(chunks), true))
		for _, more := range []int{1, 2, s.chunk - 1, s.chunk, s.chunk + 1, 100000} {
			mustFind(t, "with more behind it", m, append(slices.Clone(image), text(more)...), all(len(chunks), true))
		}
		mustFind(t, "twice", m, append(slices.Clone(image), image...), all(len(chunks), true))
	}
}

// toldStart are the chunks that end within so many bytes of an image.
func toldStart(s shape, chunks [][]byte, many int) []bool {
	l := make([]bool, len(chunks))
	end := 0
	for i, b := range chunks {
		end += len(b)
		l[i] = end <= many
	}
	return l
}

// P17.3: a beginning has the chunks that end within it: it is cut ahead of, at, and behind each chunk's end, and in its middle.
func TestFindBeginnings(t *testing.T) {
	for _, s := range shapes {
		image := text(s.size)
		m, chunks := build(t, image, s.chunk)
		for i := range len(chunks) + 1 {
			for _, cut := range []int{i*s.chunk - 1, i * s.chunk, i*s.chunk + 1, i*s.chunk + s.chunk/2} {
				if cut >= 0 && cut <= s.size {
					// In memory of its own, so that nothing lies behind it.
					mustFind(t, fmt.Sprintf("its first %d", cut), m, slices.Clip(slices.Clone(image[:cut])), toldStart(s, chunks, cut))
				}
			}
		}
		mustFind(t, "all but the last one", m, image[:s.size-1], but(all(len(chunks), true), len(chunks)-1))
	}
}

// P17.3: what is told by hand of beginnings.
func TestFindBeginningsByHand(t *testing.T) {
	m, _ := build(t, []byte("0123456789"), 4)
	for b, want := range map[string]string{
		"": "000", "0": "000", "012": "000", "0123": "100", "01234": "100", "0123456": "100", "01234567": "110", "012345678": "110", "0123456789": "111", "0123456789a": "111",
		"x123456789": "011", "012x456789": "011", "0123x56789": "101", "0123456x89": "101", "01234567x9": "110", "012345678x": "110", "x1234567": "010", "01234x6789": "101", "x123x567x9": "000", "x123x56789": "001",
		"123456789": "000", "a0123456789": "000", "4567012389": "001", "0123012389": "101", "89": "000", "0123456798": "110", "x123": "000", "xxxx4567": "010", "xxxx456": "000", "xxxxxxxx89": "001", "xxxxxxxx8": "000",
	} {
		mustFind(t, b, m, []byte(b), bools(want))
	}
}

// P17.3: with one byte changed in a chunk, at each end of it and between them, all others are there.
func TestFindWithOneByteChanged(t *testing.T) {
	for _, s := range shapes {
		image := text(s.size)
		m, chunks := build(t, image, s.chunk)
		for i, b := range chunks {
			for _, at := range []int{0, len(b) / 2, len(b) - 1} {
				changed := slices.Clone(image)
				changed[i*s.chunk+at] ^= 1
				mustFind(t, fmt.Sprintf("changed at %d of %d", at, i), m, changed, but(all(len(chunks), true), i))
			}
		}
	}
}

// P17.3: of no bytes no chunk is there, as each one has at least one.
func TestFindOfNoBytes(t *testing.T) {
	for _, s := range shapes {
		m, chunks := build(t, text(s.size), s.chunk)
		mustFind(t, "no bytes", m, nil, all(len(chunks), false))
		mustFind(t, "no bytes", m, []byte{}, all(len(chunks), false))
	}
}

// P17.3: of another image none is there, and of one that begins as another does those that both have.
func TestFindOfAnotherImage(t *testing.T) {
	image := text(100)
	m, _ := build(t, image, 10)
	mustFind(t, "of another one", m, text(101), all(10, false))
	mustFind(t, "of zeros", m, make([]byte, 100), all(10, false))
	mustFind(t, "half of another one", m, append(text(99)[:50], image[50:]...), bools("0000011111"))
	mustFind(t, "moved by one", m, image[1:], all(10, false))
	mustFind(t, "moved by a chunk", m, image[10:], all(10, false))
	other, _ := build(t, image, 20)
	mustFind(t, "in other chunks", other, image[:70], bools("11100"))
}

// P17.3: a manifest that may not be has none, whatever bytes there are.
func TestFindOfNoManifest(t *testing.T) {
	for _, m := range append(noManifests(t), api.Manifest{}) {
		for _, b := range [][]byte{nil, {}, text(1), text(4), text(10), text(100), text(70000)} {
			mustFind(t, "of no manifest", m, b, nil)
		}
	}
}

// P17.3: of a manifest made by hand each chunk is there whose digest is that of the bytes; the Whole is not asked.
func TestFindGoesByEachDigest(t *testing.T) {
	image := text(10)
	m, _ := build(t, image, 4)
	was := slices.Clone(m.Chunks)
	m.Whole = [32]byte{}
	mustFind(t, "without a Whole", m, image, bools("111"))
	for i := range 3 {
		for _, at := range []int{0, 15, 31} {
			m.Chunks = slices.Clone(was)
			m.Chunks[i][at]++
			mustFind(t, "one digest is wrong", m, image, but(all(3, true), i))
		}
	}
	m.Chunks = make([][32]byte, 3)
	mustFind(t, "no digest is right", m, image, bools("000"))
	mustFind(t, "no digest is right", m, nil, bools("000"))
	m.Chunks = [][32]byte{was[1], was[0], was[2]}
	mustFind(t, "digests change places", m, image, bools("001"))
}

// P17.3: what lies in the bytes' spare room is none of them.
func TestFindLeavesSpareRoom(t *testing.T) {
	for _, s := range shapes {
		image := text(s.size)
		m, chunks := build(t, image, s.chunk)
		for i := range chunks {
			for _, cut := range []int{i * s.chunk, i*s.chunk + 1, min((i+1)*s.chunk, s.size) - 1} {
				mustFind(t, "all of it in spare room", m, image[:cut], toldStart(s, chunks, cut))
			}
		}
	}
}
