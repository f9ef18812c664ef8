package fact_test

import (
	"bytes"
	"math"
	"slices"
	"testing"

	"shipwright/api"
	"shipwright/fact"
	"shipwright/manifest"
)

// number says a number's bytes in the words of code's chapter: twice it, or twice its opposite less 1, by seven bits a byte.
func number(n int64) []byte {
	u := uint64(n) << 1
	if n < 0 {
		u = ^u
	}
	b := []byte{byte(u % 128)}
	for u /= 128; u > 0; u /= 128 {
		b = append([]byte{byte(u%128) + 128}, b...)
	}
	return b
}

// written says bytes of such numbers, whether a fact may be so or not, and more behind them.
func written(kind, epoch, node int64, more ...byte) []byte {
	return slices.Concat(number(kind), number(epoch), number(node), more)
}

// inText says bytes with their number ahead.
func inText(b []byte) []byte {
	return append(number(int64(len(b))), b...)
}

// image says a manifest's bytes.
func image(t *testing.T, m api.Manifest) []byte {
	t.Helper()
	b, err := manifest.Encode(m)
	if err != api.OK {
		t.Fatalf("a manifest of %d bytes: %d", m.Size, err)
	}
	return b
}

// bytesOf says a fact's bytes in the chapter's words.
func bytesOf(t *testing.T, f api.Fact) []byte {
	t.Helper()
	b := written(int64(f.Kind), f.Epoch, int64(f.Node))
	if f.Kind == api.FEpoch {
		b = append(b, inText(image(t, f.Manifest))...)
	}
	return b
}

// mustBeNone tells of bytes that are taken for a fact.
func mustBeNone(t *testing.T, b []byte) {
	t.Helper()
	if f, err := fact.Decode(b); err != api.ErrFact || !same(f, api.Fact{}) {
		t.Errorf("%d bytes, %v: %+v, %d", len(b), b[:min(len(b), 20)], f, err)
	}
}

// mustBeFact tells of bytes that are not taken for a fact as it is.
func mustBeFact(t *testing.T, b []byte, want api.Fact) {
	t.Helper()
	if f, err := fact.Decode(b); err != api.OK || !same(f, want) {
		t.Errorf("%d bytes, %v: %+v, %d", len(b), b[:min(len(b), 20)], f, err)
	}
}

// mustBeOwn tells of bytes that are taken for a fact whose bytes they are not, or for one that may not be.
func mustBeOwn(t *testing.T, b []byte) {
	t.Helper()
	f, err := fact.Decode(b)
	if err != api.OK {
		mustBeNone(t, b)
		return
	}
	if again, e := fact.Encode(f); e != api.OK || !bytes.Equal(again, b) || fact.Check(9, f) != api.OK {
		t.Errorf("%v: %+v, %v", b[:min(len(b), 20)], f, again)
	}
}

// P10.3: each kind, byte by byte.
func TestEncodeByteByByte(t *testing.T) {
	m := imageOf(t, 3, 2)
	for _, c := range []struct {
		f    api.Fact
		want []byte
	}{
		{healthy(35, 1), []byte{4, 70, 2}},
		{healthy(16, 0), []byte{4, 32, 0}},
		{abort(16, 8), []byte{6, 32, 16}},
		{abort(64, 3), []byte{6, 129, 0, 6}},
		{abort(56, 3), []byte{6, 112, 6}},
		{healthy(8192, 7), []byte{4, 129, 128, 0, 14}},
		{healthy(top, 0), []byte{4, 192, 128, 128, 128, 128, 0, 0}},
		{abort(top-8, 8), []byte{6, 191, 255, 255, 255, 255, 112, 16}},
		// 98 bytes, so that their number is 129 68: a size, a size of chunks, two of these, and all.
		{published(35, m), slices.Concat([]byte{2, 70, 6, 129, 68, 6, 4}, m.Chunks[0][:], m.Chunks[1][:], m.Whole[:])},
	} {
		if b, err := fact.Encode(c.f); err != api.OK || !bytes.Equal(b, c.want) {
			t.Errorf("%d, %d, %d: %v, %d; want %v", c.f.Kind, c.f.Epoch, c.f.Node, b, err, c.want)
		}
		mustBeFact(t, c.want, c.f)
	}
}

// P10.3: the greatest manifest: sixty-four chunks and one digest more, a size of three bytes, a chunk of two.
func TestGreatestFact(t *testing.T) {
	f := published(top-8, imageOf(t, 65536, 1024))
	b := encoded(t, f)
	ahead := []byte{2, 191, 255, 255, 255, 255, 112, 16, 160, 74, 136, 128, 0, 144, 0}
	if len(b) != len(ahead)+65*32 || !bytes.HasPrefix(b, ahead) || !bytes.Equal(b, bytesOf(t, f)) {
		t.Errorf("%d bytes: %v", len(b), b[:min(len(b), 20)])
	}
	mustBeFact(t, b, f)
}

// P10.3, P10.4: facts of each kind are decoded as they were.
func TestEncodeAndDecode(t *testing.T) {
	for _, f := range several(t) {
		b := encoded(t, f)
		if !bytes.Equal(b, bytesOf(t, f)) {
			t.Errorf("%d, %d, %d: %v", f.Kind, f.Epoch, f.Node, b)
		}
		mustBeFact(t, b, f)
	}
}

// P10.4: no two facts have the same bytes.
func TestBytesTellFactsApart(t *testing.T) {
	seen := map[string]api.Fact{}
	for _, f := range several(t) {
		b := string(encoded(t, f))
		if g, ok := seen[b]; ok && !same(f, g) {
			t.Errorf("%+v and %+v", f, g)
		}
		seen[b] = f
	}
}

// P10.3: a list of chunks without elements is as one that is nil.
func TestEncodeWithoutChunks(t *testing.T) {
	f := healthy(35, 1)
	f.Manifest.Chunks = [][32]byte{}
	if b := encoded(t, f); !bytes.Equal(b, []byte{4, 70, 2}) {
		t.Error(b)
	}
}

// P10.3: a fact that Check of nine nodes refuses has no bytes; one that fewer nodes have not has them.
func TestEncodeNone(t *testing.T) {
	m := imageOf(t, 3, 2)
	l := []api.Fact{
		{}, {Epoch: 16}, {Kind: 4, Epoch: 16}, {Kind: -1, Epoch: 16}, {Kind: math.MaxInt, Epoch: 16}, {Kind: 4, Epoch: 35, Node: 3, Manifest: m},
		healthy(16, 9), abort(16, 9), healthy(16, -1), abort(16, math.MaxInt), healthy(25, 0), abort(31, 0), published(25, m),
		healthy(15, 0), abort(0, 0), healthy(-16, 0), published(0, m), published(-16, m), healthy(top+1, 0), published(top+1, m), published(math.MaxInt64-15, m),
		{Kind: api.FEpoch, Epoch: 35, Node: 2, Manifest: m}, {Kind: api.FEpoch, Epoch: 35, Node: 0, Manifest: m},
		{Kind: api.FHealthy, Epoch: 35, Node: 3, Manifest: m}, {Kind: api.FAbort, Epoch: 35, Node: 3, Manifest: m},
	}
	for _, bad := range append(noManifests(t), notEmpty()...) {
		l = append(l, published(35, bad))
	}
	for _, bad := range notEmpty() {
		l = append(l, api.Fact{Kind: api.FHealthy, Epoch: 35, Node: 1, Manifest: bad}, api.Fact{Kind: api.FAbort, Epoch: 35, Node: 1, Manifest: bad})
	}
	for _, f := range l {
		if b, err := fact.Encode(f); err != api.ErrFact || len(b) != 0 {
			t.Errorf("%+v: %v, %d", f, b, err)
		}
	}
	if b := encoded(t, abort(24, 8)); !bytes.Equal(b, []byte{6, 48, 16}) {
		t.Error(b)
	}
}

// P10.3: cut at any place, with bytes behind, with a byte ahead, and without the first one.
func TestDecodeCutBytes(t *testing.T) {
	mustBeNone(t, nil)
	mustBeNone(t, []byte{})
	for _, f := range []api.Fact{healthy(35, 1), abort(top, 8), published(35, imageOf(t, 3, 2)), published(16, imageOf(t, 1, 1)), published(top-8, imageOf(t, 65536, 1024))} {
		b := encoded(t, f)
		for i := range b {
			mustBeNone(t, b[:i])
		}
		for _, more := range [][]byte{{0}, {1}, {255}, make([]byte, 32), b} {
			mustBeNone(t, slices.Concat(b, more))
		}
		mustBeNone(t, append([]byte{0}, b...))
		mustBeNone(t, b[1:])
		mustBeFact(t, b, f)
	}
}

// P10.3, P10.4: whatever a byte is changed to, what is decoded has just these bytes.
func TestDecodeChangedBytes(t *testing.T) {
	for _, f := range []api.Fact{healthy(35, 1), abort(top, 8), healthy(8192, 0), published(35, imageOf(t, 3, 2)), published(16, imageOf(t, 64, 1))} {
		b := encoded(t, f)
		for i := range b {
			// What a digest's byte is counts for nothing here: few changes of these do.
			by := 1
			if i > 20 {
				by = 37
			}
			for x := by; x < 256; x += by {
				b[i] ^= byte(x)
				mustBeOwn(t, b)
				b[i] ^= byte(x)
			}
		}
		mustBeFact(t, b, f)
	}
}

// P10.3: whatever three bytes are: numbers of a byte each, that tell a fact without a manifest, or none.
func TestDecodeThreeBytes(t *testing.T) {
	const few = 80 // as the first and the last byte; all above are no kind, no node, or go on
	for i := range few * few * 256 {
		b := []byte{byte(i % few), byte(i / few % 256), byte(i / few / 256)}
		f := api.Fact{Kind: int(b[0] / 2), Epoch: int64(b[1] / 2), Node: int(b[2] / 2)}
		is := (b[0] == 4 || b[0] == 6) && b[1]%2 == 0 && b[1] < 128 && f.Epoch >= 16 && f.Epoch%16 < 9 && b[2]%2 == 0 && f.Node < 9
		g, err := fact.Decode(b)
		if is && (err != api.OK || !same(f, g)) || !is && (err != api.ErrFact || !same(g, api.Fact{})) {
			t.Fatalf("%v: %+v, %d", b, g, err)
		}
	}
	for i := range 256 {
		mustBeOwn(t, []byte{byte(i), 70, 2})
		mustBeOwn(t, []byte{4, 70, byte(i)})
	}
}

// P10.3: numbers that no fact has, far off, and those that would be a fact's if their highest bits were left out.
func TestDecodeOtherNumbers(t *testing.T) {
	far := []int64{-1, -2, -4, -35, math.MinInt64, math.MaxInt64, 1 << 32, 1<<32 + 2, 1<<32 + 35, -1 << 32, 1 << 62, 1<<62 + 2, high + 2, high + 35, math.MinInt64 + 2}
	more := inText(image(t, imageOf(t, 3, 2)))
	for _, behind := range [][]byte{nil, more} {
		for _, kind := range append(far, 0, 4, 5, 128, 258, 259) {
			mustBeNone(t, written(kind, 35, 3, behind...))
		}
		for _, kind := range []int64{1, 2, 3} {
			for _, node := range append(far, 9, 10, 15, 16, 19, 259) {
				mustBeNone(t, written(kind, 35, node, behind...))
			}
			for _, epoch := range append(far, 0, 1, 3, 8, 15, 25, 31, 41, top-1, top-7, top+1, top+16, top+35, 2*top) {
				if epoch < 16 || epoch > top || epoch%16 >= 9 {
					mustBeNone(t, written(kind, epoch, epoch&15, behind...))
					mustBeNone(t, written(kind, epoch, 3, behind...))
				}
			}
		}
	}
	mustBeFact(t, written(2, 35, 3), healthy(35, 3))
	mustBeFact(t, written(1, 35, 3, more...), published(35, imageOf(t, 3, 2)))
}

// P10.3: numbers that are written in more bytes than they need, or in no end of them.
func TestDecodeLongNumbers(t *testing.T) {
	m := imageOf(t, 3, 2)
	b := image(t, m)
	epoch := func(kind, number, node, size []byte) []byte { return slices.Concat(kind, number, node, size, b) }
	mustBeFact(t, epoch([]byte{2}, []byte{70}, []byte{6}, []byte{129, 68}), published(35, m))
	for _, b := range [][]byte{
		epoch([]byte{128, 2}, []byte{70}, []byte{6}, []byte{129, 68}),
		epoch([]byte{2}, []byte{128, 70}, []byte{6}, []byte{129, 68}),
		epoch([]byte{2}, []byte{70}, []byte{128, 6}, []byte{129, 68}),
		epoch([]byte{2}, []byte{70}, []byte{6}, []byte{128, 129, 68}),
		{128, 4, 70, 2}, {4, 128, 70, 2}, {4, 70, 128, 2}, {4, 70, 128, 128, 2}, {128, 128, 4, 70, 2},
		// More than 64 bits, of which the lowest ones would be right.
		{4, 130, 128, 128, 128, 128, 128, 128, 128, 128, 70, 2}, {4, 132, 128, 128, 128, 128, 128, 128, 128, 128, 128, 70, 2},
		{130, 128, 128, 128, 128, 128, 128, 128, 128, 4, 70, 2}, {4, 70, 130, 128, 128, 128, 128, 128, 128, 128, 128, 2},
		bytes.Repeat([]byte{128}, 20), bytes.Repeat([]byte{255}, 500), append([]byte{4, 70}, bytes.Repeat([]byte{255}, 50)...),
	} {
		mustBeNone(t, b)
	}
}

// P10.3: an FHealthy or FAbort with a manifest behind it, an FEpoch without one, and one that another node says.
func TestDecodeOtherKinds(t *testing.T) {
	m := image(t, imageOf(t, 3, 2))
	for _, kind := range []int64{2, 3} {
		for _, more := range [][]byte{inText(m), inText(nil), m, {0}} {
			mustBeNone(t, written(kind, 35, 3, more...))
			mustBeNone(t, written(kind, 35, 1, more...))
		}
	}
	mustBeNone(t, written(1, 35, 3))
	mustBeNone(t, written(1, 35, 3, inText(nil)...))
	for node := range int64(9) {
		if node != 3 {
			mustBeNone(t, written(1, 35, node, inText(m)...))
		}
	}
}

// P10.3: a Text that is longer or shorter than told, or that is no manifest.
func TestDecodeOtherTexts(t *testing.T) {
	m := image(t, imageOf(t, 3, 2))
	mustBeFact(t, written(1, 35, 3, inText(m)...), published(35, imageOf(t, 3, 2)))
	size := int64(len(m))
	for _, told := range []int64{0, 1, size - 1, size + 1, size + 32, 2 * size, -1, -size, 1 << 32, 1<<32 + size, 1 << 62, 1<<62 + size, math.MaxInt64, math.MinInt64, high + size} {
		mustBeNone(t, written(1, 35, 3, slices.Concat(number(told), m)...))
		mustBeNone(t, written(1, 35, 3, slices.Concat(number(told), m, []byte{0})...))
	}
	digests := make([]byte, 66*32)
	none := [][]byte{{}, {0}, {6, 4}, m[:len(m)-1], m[1:], append(slices.Clone(m), 0), append([]byte{0}, m...), append([]byte{128}, m...), slices.Concat(m, m), inText(m)}
	for _, numbers := range [][]byte{{0, 4}, {6, 0}, {5, 4}, {6, 3}, {130, 2, 2}, {136, 128, 2, 144, 0}, {6, 192, 2}} {
		for n := range 67 {
			none = append(none, slices.Concat(numbers, digests[:32*n]))
		}
	}
	for _, b := range none {
		mustBeNone(t, written(1, 35, 3, inText(b)...))
	}
}

// P10.3, P10.4: facts' bytes with others in between, taken out, or laid over, as chance has it.
func TestDecodeSpoiltBytes(t *testing.T) {
	l := several(t)
	k := uint64(3)
	for range 20000 {
		b := encoded(t, l[draw(&k, len(l))])
		for range 1 + draw(&k, 3) {
			at := draw(&k, len(b)+1)
			switch to := min(at+draw(&k, 3), len(b)); draw(&k, 3) {
			case 0:
				b = slices.Insert(b, at, byte(draw(&k, 256)))
			case 1:
				b = slices.Delete(b, at, to)
			case 2:
				for i := at; i < to; i++ {
					b[i] = byte(draw(&k, 256))
				}
			}
		}
		mustBeOwn(t, b)
	}
}

// P10.3, P10.4: of any bytes, what is decoded has just these.
func FuzzDecode(f *testing.F) {
	f.Add([]byte{4, 70, 2})
	m, _ := manifest.Build([]byte("abc"), 2)
	b, _ := fact.Encode(published(35, m))
	f.Add(b)
	f.Fuzz(func(t *testing.T, b []byte) { mustBeOwn(t, b) })
}
