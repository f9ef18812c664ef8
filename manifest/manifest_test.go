package manifest_test

import (
	"bytes"
	"crypto/sha256"
	"math"
	"slices"
	"testing"

	"shipwright/api"
	"shipwright/code"
	"shipwright/manifest"
)

// text has n bytes of all kinds, without a random source.
func text(n int) []byte {
	b := make([]byte, n)
	x := uint64(n) + 1
	for i := range b {
		x = x*6364136223846793005 + 1442695040888963407
		b[i] = byte(x >> 56)
	}
	return b
}

// high is a number far off, whose lowest bits are all 0.
const high = math.MaxInt/2 + 1

// shape is an image's size, and how many bytes a chunk of it has.
type shape struct {
	size, chunk int
}

// good are shapes of images that may be: at the limits, with a last chunk that is full, and with one that is not.
var good = []shape{
	{1, 1}, {1, 2}, {1, 4096}, {2, 1}, {2, 2}, {2, 3}, {10, 1}, {10, 3}, {10, 4}, {10, 5}, {10, 9}, {10, 10}, {10, 11}, {10, 4096},
	{63, 1}, {64, 1}, {64, 2}, {65, 2}, {127, 2}, {128, 2}, {255, 4}, {300, 100}, {301, 100}, {299, 100},
	{4095, 4096}, {4096, 4096}, {4097, 4096}, {4096, 64}, {8191, 4096}, {8192, 4096}, {8193, 4096},
	{65535, 1024}, {65536, 1024}, {65473, 1024}, {65472, 1023}, {65535, 4096}, {65536, 4096}, {65536, 1025}, {65536, 4095}, {65441, 4096},
}

// bad are shapes of images that may not be: of no byte, of one too many, of one chunk too many, and of numbers far off.
var bad = []shape{
	{0, 1}, {0, 4}, {0, 4096}, {0, 0}, {0, -1}, {0, 4097}, {1, 0}, {1, -1}, {1, 4097}, {5, 0}, {5, 4097}, {5, -4}, {5, math.MinInt}, {5, math.MaxInt},
	{65, 1}, {66, 1}, {129, 2}, {4097, 64}, {65536, 1023}, {65473, 1023}, {65536, 1}, {65536, 0}, {65536, 4097},
	{65537, 4096}, {65537, 1024}, {65537, 1025}, {65537, 0}, {65537, 4097}, {70000, 4096},
}

// sizesOf says how many bytes each chunk has, in the chapter's words.
func sizesOf(s shape) []int {
	var l []int
	left := s.size
	for left > s.chunk {
		l = append(l, s.chunk)
		left -= s.chunk
	}
	return append(l, left)
}

// manifestOf says an image's manifest in the chapter's words.
func manifestOf(image []byte, chunk int) api.Manifest {
	m := api.Manifest{Size: len(image), Chunk: chunk, Whole: sha256.Sum256(image)}
	at := 0
	for i, n := range sizesOf(shape{len(image), chunk}) {
		m.Chunks = append(m.Chunks, sha256.Sum256(slices.Concat([]byte{0, byte(i)}, image[at:at+n])))
		at += n
	}
	return m
}

func same(a, b api.Manifest) bool {
	return a.Size == b.Size && a.Chunk == b.Chunk && a.Whole == b.Whole && slices.Equal(a.Chunks, b.Chunks)
}

func zero(m api.Manifest) bool {
	return m.Size == 0 && m.Chunk == 0 && m.Whole == [32]byte{} && len(m.Chunks) == 0
}

func build(t *testing.T, image []byte, chunk int) api.Manifest {
	t.Helper()
	m, err := manifest.Build(image, chunk)
	if err != api.OK {
		t.Fatalf("Build of %d bytes, in chunks of %d: %d", len(image), chunk, err)
	}
	return m
}

// noManifests may not be, each for a reason of its own; their digests are of an image of ten bytes, as far as they go.
func noManifests() []api.Manifest {
	m := manifestOf(text(10), 4)
	with := func(size, chunk, chunks int) api.Manifest {
		l := slices.Grow(slices.Clone(m.Chunks), 100)[:chunks]
		return api.Manifest{Size: size, Chunk: chunk, Chunks: l, Whole: m.Whole}
	}
	l := []api.Manifest{{}, {Chunk: 4}, {Size: 10, Chunk: 4}, {Size: 10, Chunk: 4, Whole: m.Whole}, {Size: 1, Chunk: 1, Chunks: [][32]byte{}}}
	for _, c := range [][3]int{
		{10, 4, 0}, {10, 4, 1}, {10, 4, 2}, {10, 4, 4}, {10, 4, 64}, {10, 5, 3}, {10, 3, 3}, {8, 4, 3}, {12, 4, 4}, {13, 4, 3}, {64, 1, 63}, {64, 1, 65},
		{0, 4, 3}, {0, 4, 1}, {0, 4, 0}, {-1, 4, 3}, {-10, 4, 3}, {10, 0, 3}, {10, -4, 3}, {-10, -4, 3}, {10, 4097, 1}, {0, 0, 0}, {0, 0, 3},
		{65, 1, 65}, {65, 1, 64}, {128, 1, 100}, {65537, 4096, 17}, {65536, 1023, 65}, {65536, 1023, 64},
		{math.MaxInt, 1, 3}, {math.MaxInt, 4096, 64}, {math.MaxInt, math.MaxInt, 1}, {math.MinInt, 1, 3}, {math.MinInt, math.MinInt, 1},
		{10, math.MaxInt, 1}, {10, math.MinInt, 3}, {10, math.MinInt, 0}, {math.MinInt, -1, 0}, {high, high / 64, 64}, {high + 10, 4, 3}, {10, high + 4, 3},
	} {
		l = append(l, with(c[0], c[1], c[2]))
	}
	return l
}

// P5.1: the chapter's first example.
func TestTenBytes(t *testing.T) {
	m := build(t, []byte("0123456789"), 4)
	if m.Size != 10 || m.Chunk != 4 || len(m.Chunks) != 3 {
		t.Errorf("%+v", m)
	}
	for i, want := range []string{"\x00\x000123", "\x00\x014567", "\x00\x0289"} {
		if m.Chunks[i] != sha256.Sum256([]byte(want)) {
			t.Errorf("the chunk %d: %x", i, m.Chunks[i])
		}
	}
	if m.Whole != sha256.Sum256([]byte("0123456789")) {
		t.Errorf("the image: %x", m.Whole)
	}
	if from, to := manifest.Part(m, 2); from != 8 || to != 10 {
		t.Errorf("the last chunk: %d, %d", from, to)
	}
}

// P5.1
func TestBuild(t *testing.T) {
	for _, s := range good {
		for _, image := range [][]byte{text(s.size), make([]byte, s.size), bytes.Repeat([]byte{255}, s.size)} {
			m := build(t, image, s.chunk)
			if !same(m, manifestOf(image, s.chunk)) {
				t.Errorf("of %v: %+v", s, m)
			}
			if err := manifest.Check(m); err != api.OK {
				t.Errorf("of %v: %d", s, err)
			}
		}
	}
}

// P5.1: every size of few bytes, in chunks of every size.
func TestBuildOfFewBytes(t *testing.T) {
	for size := range 140 {
		image := text(size)
		for chunk := -1; chunk < 145; chunk++ {
			m, err := manifest.Build(image, chunk)
			if size == 0 || chunk < 1 || len(sizesOf(shape{size, chunk})) > 64 {
				if err != api.ErrArg || !zero(m) {
					t.Errorf("%d bytes, in chunks of %d: %+v, %d", size, chunk, m, err)
				}
			} else if err != api.OK || !same(m, manifestOf(image, chunk)) {
				t.Errorf("%d bytes, in chunks of %d: %+v, %d", size, chunk, m, err)
			}
		}
	}
}

// P5.1: a chunk's place is told by its digest.
func TestLikeChunks(t *testing.T) {
	m := build(t, make([]byte, 65536), 1024)
	for i, d := range m.Chunks {
		if len(m.Chunks) != 64 || slices.Index(m.Chunks, d) != i {
			t.Errorf("the chunk %d of %d has another one's digest", i, len(m.Chunks))
		}
	}
}

// P5.1
func TestBuildNone(t *testing.T) {
	for _, s := range bad {
		if m, err := manifest.Build(make([]byte, s.size), s.chunk); err != api.ErrArg || !zero(m) {
			t.Errorf("of %v: %+v, %d", s, m, err)
		}
	}
	for _, chunk := range []int{4, 1, 0, -1, 4096, 4097, math.MaxInt, math.MinInt} {
		if m, err := manifest.Build(nil, chunk); err != api.ErrArg || !zero(m) {
			t.Errorf("of none, in chunks of %d: %+v, %d", chunk, m, err)
		}
	}
}

// P5.1: as many chunks as there are, one fewer and one more; what the digests are does not count.
func TestCheck(t *testing.T) {
	for _, s := range good {
		n := len(sizesOf(s))
		for chunks, want := range map[int]api.Errno{n: api.OK, n - 1: api.ErrManifest, n + 1: api.ErrManifest, 0: api.ErrManifest, 65: api.ErrManifest, 2 * n: api.ErrManifest} {
			m := api.Manifest{Size: s.size, Chunk: s.chunk, Chunks: make([][32]byte, chunks)}
			if err := manifest.Check(m); err != want {
				t.Errorf("%v, and %d chunks: %d, want %d", s, chunks, err, want)
			}
		}
	}
}

// P5.1: whatever number of chunks is told.
func TestCheckNone(t *testing.T) {
	for _, s := range append(bad, shape{-1, 4}, shape{math.MinInt, 4}, shape{math.MaxInt, 4}, shape{math.MaxInt, math.MaxInt}, shape{math.MinInt, -1}) {
		for n := range 70 {
			if err := manifest.Check(api.Manifest{Size: s.size, Chunk: s.chunk, Chunks: make([][32]byte, n)}); err != api.ErrManifest {
				t.Errorf("%v, and %d chunks: %d", s, n, err)
			}
		}
	}
}

// P5.1 to P5.3: every function that takes a manifest refuses one that may not be, whatever else it is told; Root has a digest of it.
func TestNoManifests(t *testing.T) {
	image := text(10)
	for n, m := range noManifests() {
		if err := manifest.Check(m); err != api.ErrManifest {
			t.Errorf("%d: Check: %d", n, err)
		}
		for _, i := range []int{0, 1, 2, 3, -1, 64, math.MaxInt, math.MinInt} {
			if from, to := manifest.Part(m, i); from != 0 || to != 0 {
				t.Errorf("%d: Part(%d): %d, %d", n, i, from, to)
			}
			for _, b := range [][]byte{nil, image[:4], image[8:], image} {
				if err := manifest.Verify(m, i, b); err != api.ErrArg {
					t.Errorf("%d: Verify(%d): %d", n, i, err)
				}
			}
		}
		for _, b := range [][]byte{nil, {}, image, image[:9]} {
			if err := manifest.Whole(m, b); err != api.ErrArg {
				t.Errorf("%d: Whole: %d", n, err)
			}
		}
		if b, err := manifest.Encode(m); err != api.ErrManifest || len(b) != 0 {
			t.Errorf("%d: Encode: %v, %d", n, b, err)
		}
		if manifest.Root(m) != rootOf(m) {
			t.Errorf("%d: Root: %x", n, manifest.Root(m))
		}
	}
}

// P5.2: chunks lie one behind the other, from 0 to the image's end.
func TestParts(t *testing.T) {
	for _, s := range good {
		m := build(t, text(s.size), s.chunk)
		at := 0
		for i, n := range sizesOf(s) {
			if from, to := manifest.Part(m, i); from != at || to != at+n {
				t.Errorf("of %v, the chunk %d: %d, %d; want %d, %d", s, i, from, to, at, at+n)
			}
			at += n
		}
		for _, i := range noPlaces(m) {
			if from, to := manifest.Part(m, i); from != 0 || to != 0 {
				t.Errorf("of %v, no chunk %d: %d, %d", s, i, from, to)
			}
		}
	}
}

// noPlaces are those at which a manifest has no chunk.
func noPlaces(m api.Manifest) []int {
	n := len(m.Chunks)
	return []int{-1, -2, -n, n, n + 1, n + 256, n - 256, 65536, high, -high, math.MaxInt, math.MaxInt - 1, math.MinInt, math.MinInt + 1, math.MaxInt / 4}
}

// P5.2: where a chunk is does not hang on digests.
func TestPartsOfOtherDigests(t *testing.T) {
	m := build(t, text(10), 4)
	m.Whole = [32]byte{}
	clear(m.Chunks)
	if from, to := manifest.Part(m, 1); from != 4 || to != 8 {
		t.Errorf("%d, %d", from, to)
	}
}

// P5.2
func TestVerifyChunks(t *testing.T) {
	for _, s := range good {
		image := text(s.size)
		m := build(t, image, s.chunk)
		at := 0
		for i, n := range sizesOf(s) {
			b := image[at : at+n]
			at += n
			if err := manifest.Verify(m, i, b); err != api.OK {
				t.Errorf("of %v, the chunk %d: %d", s, i, err)
			}
			for _, wrong := range others(b) {
				if err := manifest.Verify(m, i, wrong); err != api.ErrChunk {
					t.Errorf("of %v, the chunk %d, of %d bytes, taken for %d: %d", s, i, len(wrong), n, err)
				}
			}
		}
		for _, i := range noPlaces(m) {
			for _, b := range [][]byte{nil, image[:min(s.chunk, s.size)], image} {
				if err := manifest.Verify(m, i, b); err != api.ErrArg {
					t.Errorf("of %v, no chunk %d: %d", s, i, err)
				}
			}
		}
	}
}

// others are bytes with another one (the first, one between, the last), with one fewer at an end, with one more, and none.
func others(b []byte) [][]byte {
	l := [][]byte{nil, {}, b[1:], b[:len(b)-1], append(slices.Clone(b), 0), append([]byte{0}, b...), slices.Concat(b, b)}
	for _, at := range []int{0, len(b) / 2, len(b) - 1} {
		for _, by := range []byte{1, 128, 255} {
			c := slices.Clone(b)
			c[at] ^= by
			l = append(l, c)
		}
	}
	return l
}

// P5.2: each bit of a chunk.
func TestVerifyTellsEachBit(t *testing.T) {
	image := text(70)
	m := build(t, image, 20)
	for at := range 8 * len(image) {
		wrong := slices.Clone(image)
		wrong[at/8] ^= 1 << (at % 8)
		for i := range m.Chunks {
			from, to := manifest.Part(m, i)
			want := api.OK
			if at/8 >= from && at/8 < to {
				want = api.ErrChunk
			}
			if err := manifest.Verify(m, i, wrong[from:to]); err != want {
				t.Errorf("the bit %d changed, the chunk %d: %d, want %d", at, i, err, want)
			}
		}
		if err := manifest.Whole(m, wrong); err != api.ErrChunk {
			t.Errorf("the bit %d changed, the image: %d", at, err)
		}
	}
}

// P5.2: a chunk at another one's place, of like bytes or not.
func TestChunksAtOtherPlaces(t *testing.T) {
	m, zeros := build(t, text(64), 4), build(t, make([]byte, 64), 4)
	for i := range m.Chunks {
		for j := range m.Chunks {
			want := api.OK
			if i != j {
				want = api.ErrChunk
			}
			if err := manifest.Verify(m, i, text(64)[4*j:4*j+4]); err != want {
				t.Errorf("the chunk %d at %d: %d", j, i, err)
			}
			moved := zeros
			moved.Chunks = slices.Clone(zeros.Chunks)
			moved.Chunks[i] = zeros.Chunks[j]
			if err := manifest.Verify(moved, i, make([]byte, 4)); err != want {
				t.Errorf("bytes 0, the digest of %d at %d: %d", j, i, err)
			}
		}
	}
}

// P5.2: bytes of another number have the wrong number, even where the manifest has their digest.
func TestNumberOfBytesCounts(t *testing.T) {
	image := text(10)
	m := build(t, image, 4)
	for n := range 11 {
		m.Chunks[2] = sha256.Sum256(slices.Concat([]byte{0, 2}, image[:n]))
		want := api.ErrChunk
		if n == 2 {
			want = api.OK
		}
		if err := manifest.Verify(m, 2, image[:n]); err != want {
			t.Errorf("a chunk of %d bytes: %d", n, err)
		}
		m.Whole = sha256.Sum256(image[:n])
		want = api.ErrChunk
		if n == 10 {
			want = api.OK
		}
		if err := manifest.Whole(m, image[:n]); err != want {
			t.Errorf("an image of %d bytes: %d", n, err)
		}
	}
}

// P5.2: a chunk hangs on its own digest alone, the image on Whole alone.
func TestDigestsCountAlone(t *testing.T) {
	image := text(10)
	for byteAt := range 32 {
		m := build(t, image, 4)
		m.Chunks[1][byteAt] ^= 1
		if manifest.Verify(m, 0, image[:4]) != api.OK || manifest.Verify(m, 1, image[4:8]) != api.ErrChunk || manifest.Whole(m, image) != api.OK {
			t.Errorf("the digest's byte %d changed", byteAt)
		}
		m = build(t, image, 4)
		m.Whole[byteAt] ^= 1
		if manifest.Verify(m, 1, image[4:8]) != api.OK || manifest.Whole(m, image) != api.ErrChunk {
			t.Errorf("the byte %d of Whole changed", byteAt)
		}
	}
}

// P5.2
func TestWholeImages(t *testing.T) {
	for _, s := range good {
		image := text(s.size)
		m := build(t, image, s.chunk)
		if err := manifest.Whole(m, image); err != api.OK {
			t.Errorf("of %v: %d", s, err)
		}
		for _, wrong := range append(others(image), make([]byte, 65537)) {
			if err := manifest.Whole(m, wrong); err != api.ErrChunk {
				t.Errorf("of %v, %d bytes: %d", s, len(wrong), err)
			}
		}
	}
}

// written says bytes of such numbers, and such digests, whether a manifest may be so or not.
func written(size, chunk int64, digests ...[32]byte) []byte {
	w := &code.Writer{}
	w.Int(size)
	w.Int(chunk)
	for _, d := range digests {
		w.Hash(d)
	}
	return w.Bytes()
}

// bytesOf says a manifest's bytes in the chapter's words.
func bytesOf(m api.Manifest) []byte {
	return written(int64(m.Size), int64(m.Chunk), append(slices.Clone(m.Chunks), m.Whole)...)
}

// P5.3, P5.4: manifests are decoded as they were.
func TestEncodeAndDecode(t *testing.T) {
	for _, s := range good {
		m := build(t, text(s.size), s.chunk)
		b, err := manifest.Encode(m)
		if err != api.OK || !bytes.Equal(b, bytesOf(m)) {
			t.Errorf("of %v: %v, %d", s, b, err)
		}
		if d, err := manifest.Decode(b); err != api.OK || !same(d, m) {
			t.Errorf("of %v: %+v, %d", s, d, err)
		}
	}
}

// P5.3: the chapter's numbers: two digits of 7 bits, three digests and one more.
func TestBytesOfTenBytes(t *testing.T) {
	m := build(t, []byte("0123456789"), 4)
	b, err := manifest.Encode(m)
	want := slices.Concat([]byte{20, 8}, m.Chunks[0][:], m.Chunks[1][:], m.Chunks[2][:], m.Whole[:])
	if err != api.OK || !bytes.Equal(b, want) {
		t.Errorf("%v, %d", b, err)
	}
}

// P5.3, P5.4: digests are any 32 bytes, of bytes 0 and like ones, too.
func TestDigestsOfAnyBytes(t *testing.T) {
	for _, d := range [][32]byte{{}, {0: 128, 31: 128}, [32]byte(bytes.Repeat([]byte{255}, 32))} {
		m := api.Manifest{Size: 10, Chunk: 4, Chunks: [][32]byte{d, d, d}, Whole: d}
		b, err := manifest.Encode(m)
		if err != api.OK || !bytes.Equal(b, bytesOf(m)) {
			t.Errorf("of digests %x: %v, %d", d, b, err)
		}
		if back, err := manifest.Decode(b); err != api.OK || !same(back, m) {
			t.Errorf("of digests %x: %+v, %d", d, back, err)
		}
	}
}

// mustBeNone tells of bytes that are taken for a manifest.
func mustBeNone(t *testing.T, b []byte) {
	t.Helper()
	if m, err := manifest.Decode(b); err != api.ErrManifest || !zero(m) {
		t.Errorf("%d bytes: %+v, %d", len(b), m, err)
	}
}

// P5.3: cut at any place, with bytes behind, with a byte ahead, and without the first one.
func TestDecodeCutBytes(t *testing.T) {
	mustBeNone(t, nil)
	for _, s := range []shape{{1, 1}, {10, 4}, {64, 1}, {65536, 1024}, {65536, 4096}} {
		b := bytesOf(manifestOf(text(s.size), s.chunk))
		for i := range b {
			mustBeNone(t, b[:i])
		}
		for _, more := range [][]byte{{0}, {255}, make([]byte, 32), b} {
			mustBeNone(t, slices.Concat(b, more))
		}
		mustBeNone(t, append([]byte{0}, b...))
		mustBeNone(t, b[1:])
		if m, err := manifest.Decode(b); err != api.OK || m.Size != s.size {
			t.Errorf("of %v: %+v, %d", s, m, err)
		}
	}
}

// P5.3: numbers that are below 0, 0, or too great, with as many digests as any could ask for.
func TestDecodeOtherNumbers(t *testing.T) {
	far := []int64{0, -1, -10, math.MinInt64, math.MaxInt64, 1 << 31, 1 << 32, 1<<32 + 10, -1 << 32, 65537, 1 << 62}
	for n := range 67 {
		l := make([][32]byte, n)
		for _, size := range far {
			for _, chunk := range []int64{1, 4, 1024, 4096} {
				mustBeNone(t, written(size, chunk, l...))
			}
		}
		for _, chunk := range append(far, 4097, 8192, 65536, 1<<32+4) {
			for _, size := range []int64{1, 10, 64, 4096, 4097, 65536} {
				mustBeNone(t, written(size, chunk, l...))
			}
		}
		mustBeNone(t, written(65, 1, l...))
		mustBeNone(t, written(65536, 1023, l...))
	}
}

// P5.3: as many digests as there are chunks, and one more; no fewer and no more.
func TestDecodeOtherNumbersOfDigests(t *testing.T) {
	for _, s := range good {
		want := len(sizesOf(s)) + 1
		for n := range 70 {
			b := written(int64(s.size), int64(s.chunk), make([][32]byte, n)...)
			if n != want {
				mustBeNone(t, b)
			} else if m, err := manifest.Decode(b); err != api.OK || m.Size != s.size || m.Chunk != s.chunk || len(m.Chunks) != n-1 {
				t.Errorf("of %v, with %d digests: %+v, %d", s, n, m, err)
			}
		}
	}
}

// P5.3: numbers that are written in more bytes than they need, or in no end of them.
func TestDecodeLongNumbers(t *testing.T) {
	rest := make([]byte, 4*32)
	for _, numbers := range [][]byte{
		{128, 20, 8}, {20, 128, 8}, {128, 20, 128, 8}, {128, 128, 20, 8}, {20, 128, 128, 8},
		{129, 128, 128, 128, 128, 128, 128, 128, 128, 128, 20, 8}, {130, 128, 128, 128, 128, 128, 128, 128, 128, 20, 8},
		{20, 129, 128, 128, 128, 128, 128, 128, 128, 128, 128, 8}, {20, 130, 128, 128, 128, 128, 128, 128, 128, 128, 8},
		bytes.Repeat([]byte{128}, 20), bytes.Repeat([]byte{255}, 500),
	} {
		mustBeNone(t, append(numbers, rest...))
	}
	if _, err := manifest.Decode(append([]byte{20, 8}, rest...)); err != api.OK {
		t.Errorf("%d", err)
	}
}

// P5.3: whatever the two first bytes are, ahead of three digests: two numbers of a byte each, that tell of two chunks, or none.
func TestDecodeTwoBytes(t *testing.T) {
	b := make([]byte, 2+3*32)
	for i := range 1 << 16 {
		b[0], b[1] = byte(i), byte(i/256)
		size, chunk := int(b[0]/2), int(b[1]/2)
		is := b[0] < 128 && b[1] < 128 && b[0]%2 == 0 && b[1]%2 == 0 && chunk < size && size <= 2*chunk
		m, err := manifest.Decode(b)
		if is && (err != api.OK || m.Size != size || m.Chunk != chunk) || !is && (err != api.ErrManifest || !zero(m)) {
			t.Errorf("%v: %+v, %d", b[:2], m, err)
		}
	}
}

// P5.3: whatever byte is another one, what is decoded has just these bytes.
func TestDecodeChangedBytes(t *testing.T) {
	for _, s := range []shape{{1, 1}, {10, 4}, {64, 1}, {300, 100}} {
		b := bytesOf(manifestOf(text(s.size), s.chunk))
		for i := range b {
			for bit := range 8 {
				b[i] ^= 1 << bit
				m, err := manifest.Decode(b)
				if err == api.OK && !bytes.Equal(bytesOf(m), b) || err != api.OK && (err != api.ErrManifest || !zero(m)) {
					t.Errorf("of %v, the byte %d, its bit %d changed: %+v, %d", s, i, bit, m, err)
				}
				b[i] ^= 1 << bit
			}
		}
	}
}

// P5.3: of any bytes, what is decoded has just these.
func FuzzDecode(f *testing.F) {
	for _, s := range []shape{{1, 1}, {10, 4}, {65536, 1024}} {
		f.Add(bytesOf(manifestOf(text(s.size), s.chunk)))
	}
	f.Fuzz(func(t *testing.T, b []byte) {
		m, err := manifest.Decode(b)
		if err != api.OK {
			mustBeNone(t, b)
		} else if again, err := manifest.Encode(m); err != api.OK || !bytes.Equal(again, b) {
			t.Errorf("%v: %+v", b, m)
		}
	})
}

// rootOf says a manifest's digest from below: what is left alone at a level goes up as it is.
func rootOf(m api.Manifest) [32]byte {
	l := append([][32]byte{m.Whole}, m.Chunks...)
	for len(l) > 1 {
		var above [][32]byte
		for pair := range slices.Chunk(l, 2) {
			if len(pair) == 2 {
				above = append(above, sha256.Sum256(slices.Concat([]byte{1}, pair[0][:], pair[1][:])))
			} else {
				above = append(above, pair[0])
			}
		}
		l = above
	}
	return l[0]
}

// P5.3
func TestRoot(t *testing.T) {
	for _, s := range good {
		m := build(t, text(s.size), s.chunk)
		if d := manifest.Root(m); d != rootOf(m) {
			t.Errorf("of %v: %x, want %x", s, d, rootOf(m))
		}
	}
	one := api.Manifest{Whole: [32]byte{7}}
	if manifest.Root(one) != one.Whole || manifest.Root(api.Manifest{}) != [32]byte{} {
		t.Error("without chunks")
	}
}

// P5.3: Whole and each chunk's digest count, and their places.
func TestRootTellsManifestsApart(t *testing.T) {
	m := build(t, text(10), 4)
	seen := [][32]byte{manifest.Root(m)}
	for i := range 4 {
		other := m
		other.Chunks = slices.Clone(m.Chunks)
		if i < 3 {
			other.Chunks[i][31] ^= 1
		} else {
			other.Whole[0] ^= 1
		}
		seen = append(seen, manifest.Root(other))
	}
	turned := m
	turned.Chunks = [][32]byte{m.Chunks[1], m.Chunks[0], m.Chunks[2]}
	swapped := m
	swapped.Whole, swapped.Chunks = m.Chunks[0], [][32]byte{m.Whole, m.Chunks[1], m.Chunks[2]}
	seen = append(seen, manifest.Root(turned), manifest.Root(swapped))
	for i, d := range seen {
		if slices.Index(seen, d) != i {
			t.Errorf("the root %d is that of another manifest", i)
		}
	}
}

// P5.4: an image is what its manifest says, cut as Part says it, also behind Encode and Decode.
func TestImagesAreWhatTheirManifestsSay(t *testing.T) {
	for _, s := range good {
		image := text(s.size)
		b, _ := manifest.Encode(build(t, image, s.chunk))
		m, err := manifest.Decode(b)
		var all []byte
		for i := range m.Chunks {
			from, to := manifest.Part(m, i)
			if err := manifest.Verify(m, i, image[from:to]); err != api.OK {
				t.Errorf("of %v, the chunk %d: %d", s, i, err)
			}
			all = append(all, image[from:to]...)
		}
		if err != api.OK || !bytes.Equal(all, image) || manifest.Whole(m, all) != api.OK {
			t.Errorf("of %v: %d bytes, %d", s, len(all), err)
		}
	}
}

// R4: nothing that is handed in is changed, its spare room included, and the spare room is not read.
func TestNothingIsChanged(t *testing.T) {
	room := text(400)
	was := slices.Clone(room)
	image := room[50:350]
	m := build(t, image, 100)
	list := append(slices.Clone(m.Chunks), [32]byte{1}, [32]byte{2})
	before := slices.Clone(list)
	m.Chunks = list[:3]
	root := manifest.Root(m)
	manifest.Check(m)
	manifest.Part(m, 1)
	b, _ := manifest.Encode(m)
	if manifest.Verify(m, 1, image[100:200]) != api.OK || manifest.Whole(m, image) != api.OK {
		t.Error("an image with room around is another one")
	}
	if !bytes.Equal(room, was) || !slices.Equal(list, before) {
		t.Error("what was handed in is another thing by now")
	}
	around := slices.Concat([]byte{9}, b, []byte{7, 7, 7})
	kept := slices.Clone(around)
	d, err := manifest.Decode(around[1 : 1+len(b)])
	if err != api.OK || !same(d, m) || manifest.Root(d) != root || !bytes.Equal(around, kept) {
		t.Errorf("%+v, %d", d, err)
	}
}

// R4: what is answered is memory of its own, spare room too: nobody who changes it, or what was handed in, changes another.
func TestAnswersAreNew(t *testing.T) {
	image := text(300)
	want := manifestOf(image, 100)
	first, second := build(t, image, 100), build(t, image, 100)
	clear(image)
	clear(first.Chunks[:cap(first.Chunks)])
	if !same(second, want) || !same(build(t, text(300), 100), want) {
		t.Errorf("%+v", second)
	}
	a, _ := manifest.Encode(second)
	b, _ := manifest.Encode(second)
	c := slices.Clone(b)
	clear(a[:cap(a)])
	if !bytes.Equal(b, c) || !same(second, want) {
		t.Errorf("%v", b)
	}
	x, _ := manifest.Decode(b)
	y, _ := manifest.Decode(b)
	clear(b[:cap(b)])
	clear(x.Chunks[:cap(x.Chunks)])
	clear(second.Chunks[:cap(second.Chunks)])
	if !same(y, want) {
		t.Errorf("%+v", y)
	}
}

// R5: a call answers by its arguments alone, whatever went ahead of it.
func TestNothingIsKept(t *testing.T) {
	m := build(t, text(10), 4)
	b, _ := manifest.Encode(m)
	root := manifest.Root(m)
	for _, s := range good {
		other := build(t, text(s.size), s.chunk)
		manifest.Encode(other)
		manifest.Decode(b[:len(b)-1])
		manifest.Whole(other, nil)
		again, _ := manifest.Encode(m)
		if d, err := manifest.Decode(b); err != api.OK || !same(d, m) || !bytes.Equal(again, b) || manifest.Root(m) != root || !same(build(t, text(10), 4), m) {
			t.Errorf("behind %v: %+v, %d", s, d, err)
		}
	}
}

// P5.2: Verify answers by what m says by now.
func TestManifestsMayChange(t *testing.T) {
	m := build(t, []byte("0123456789"), 4)
	if manifest.Verify(m, 0, []byte("0123")) != api.OK {
		t.Error("the first chunk")
	}
	m.Chunks[0] = sha256.Sum256([]byte("\x00\x00abcd"))
	if manifest.Verify(m, 0, []byte("0123")) != api.ErrChunk || manifest.Verify(m, 0, []byte("abcd")) != api.OK {
		t.Error("another first chunk")
	}
}
