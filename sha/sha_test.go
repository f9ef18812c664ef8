package sha_test

import (
	"bytes"
	"crypto/hmac"
	"crypto/sha256"
	"encoding/hex"
	"slices"
	"strings"
	"testing"

	"shipwright/sha"
)

// text has n bytes of all kinds, without a random source.
func text(n int) []byte {
	b := make([]byte, n)
	x := uint64(n) + 1
	for i := range b {
		x = x*6364136223846793005 + 1442695040888963407
		b[i] = byte(x >> 56)
	}
	return b
}

// digests has n of them, no two alike.
func digests(n int) [][32]byte {
	l := make([][32]byte, n)
	for i := range l {
		copy(l[i][:], text(32+i))
	}
	return l
}

// edges are lengths at which one more block is needed, those around them, and a few beside.
var edges = []int{0, 1, 2, 3, 31, 32, 54, 55, 56, 57, 63, 64, 65, 66, 118, 119, 120, 121, 127, 128, 129, 183, 184, 191, 192, 1000, 4096, 4097}

func bytesOf(digits string) []byte {
	b, err := hex.DecodeString(strings.ReplaceAll(digits, " ", ""))
	if err != nil {
		panic(err)
	}
	return b
}

// P3.1: digests that are known.
func TestKnownDigests(t *testing.T) {
	for _, c := range []struct {
		text []byte
		want string
	}{
		{nil, "e3b0c442 98fc1c14 9afbf4c8 996fb924 27ae41e4 649b934c a495991b 7852b855"},
		{[]byte("abc"), "ba7816bf 8f01cfea 414140de 5dae2223 b00361a3 96177a9c b410ff61 f20015ad"},
		{[]byte("abcdbcdecdefdefgefghfghighijhijkijkljklmklmnlmnomnopnopq"), "248d6a61 d20638b8 e5c02693 0c3e6039 a33ce459 64ff2167 f6ecedd4 19db06c1"},
		{[]byte("abcdefghbcdefghicdefghijdefghijkefghijklfghijklmghijklmnhijklmnoijklmnopjklmnopqklmnopqrlmnopqrsmnopqrstnopqrstu"), "cf5b16a7 78af8380 036ce59e 7b049237 0b249b11 e8f07a51 afac4503 7afee9d1"},
		{[]byte{0xBD}, "68325720 aabd7c82 f30f554b 313d0570 c95accbb 7dc4b5aa e11204c0 8ffe732b"},
		{[]byte{0xC9, 0x8C, 0x8E, 0x55}, "7abc22c0 ae5af26c e93dbb94 433a0e0b 2e119d01 4f8e7f65 bd56c61c cccd9504"},
		{make([]byte, 55), "02779466 cdec1638 11d07881 5c633f21 90141308 1449002f 24aa3e80 f0b88ef7"},
		{make([]byte, 56), "d4817aa5 497628e7 c77e6b60 6107042b bba31308 88c5f47a 375e6179 be789fbb"},
		{make([]byte, 57), "65a16cb7 861335d5 ace3c607 18b5052e 44660726 da4cd13b b745381b 235a1785"},
		{make([]byte, 64), "f5a5fd42 d16a2030 2798ef6e d309979b 43003d23 20d9f0e8 ea9831a9 2759fb4b"},
		{bytes.Repeat([]byte("a"), 1000000), "cdc76e5c 9914fb92 81a1c7e2 84d73e67 f1809a48 a497200e 046d39cc c7112cd0"},
	} {
		if d := sha.Sum(c.text); !bytes.Equal(d[:], bytesOf(c.want)) {
			t.Errorf("of %d bytes: %x, want %s", len(c.text), d, c.want)
		}
	}
}

// P3.1: every length through the first five blocks, and the edges, in bytes of all kinds, 0 and 255.
func TestDigestsOfAllLengths(t *testing.T) {
	lengths := slices.Clone(edges)
	for n := range 330 {
		lengths = append(lengths, n)
	}
	for _, n := range lengths {
		for _, b := range [][]byte{text(n), make([]byte, n), bytes.Repeat([]byte{255}, n), bytes.Repeat([]byte{128}, n)} {
			if d := sha.Sum(b); d != sha256.Sum256(b) {
				t.Errorf("of %d bytes: %x, want %x", n, d, sha256.Sum256(b))
			}
		}
	}
}

// P3.1: what stands behind a text is not taken for a text's own bytes.
func TestDigestOfWhatLooksLikeAnEnd(t *testing.T) {
	for _, n := range edges {
		long := append(text(n), 128)
		if sha.Sum(long) == sha.Sum(long[:n]) || sha.Sum(append(long, 0)) == sha.Sum(long) {
			t.Errorf("%d bytes have the digest of more", n)
		}
	}
}

// P3.1: a text whose bits are more than 32 bits can tell.
func TestDigestOfManyBits(t *testing.T) {
	if testing.Short() {
		t.Skip("2^29 bytes take some seconds")
	}
	part := text(1 << 20)
	all := sha256.New()
	var parts [][]byte
	for range 1 << 9 {
		parts = append(parts, part)
		all.Write(part)
	}
	parts = append(parts, part[:77])
	all.Write(part[:77])
	if d := sha.Sum(parts...); !bytes.Equal(d[:], all.Sum(nil)) {
		t.Errorf("%x, want %x", d, all.Sum(nil))
	}
}

// P3.1: without a part, and with parts that are nil or empty.
func TestNoParts(t *testing.T) {
	want := sha256.Sum256(nil)
	for i, parts := range [][][]byte{nil, {}, {nil}, {{}}, {nil, nil}, {{}, nil, {}}, make([][]byte, 1000)} {
		if d := sha.Sum(parts...); d != want {
			t.Errorf("list %d: %x", i, d)
		}
	}
	if sha.Sum() != want {
		t.Errorf("of no part: %x", sha.Sum())
	}
}

// P3.4: cut in two or three at every place.
func TestTwoAndThreeParts(t *testing.T) {
	for _, n := range []int{0, 1, 55, 56, 63, 64, 65, 119, 120, 128, 200} {
		b := text(n)
		want := sha256.Sum256(b)
		for i := range n + 1 {
			if d := sha.Sum(b[:i], b[i:]); d != want {
				t.Errorf("%d bytes, cut at %d: %x", n, i, d)
			}
			for j := i; j <= n; j += 1 + n/20 {
				if d := sha.Sum(b[:i], b[i:j], b[j:]); d != want {
					t.Errorf("%d bytes, cut at %d and %d: %x", n, i, j, d)
				}
			}
		}
	}
}

// P3.4: in parts of one length each, with nil and empty ones between.
func TestManyParts(t *testing.T) {
	for _, n := range edges {
		b := text(n)
		for _, size := range []int{1, 2, 7, 55, 56, 63, 64, 65, 128} {
			parts := [][]byte{nil}
			for part := range slices.Chunk(b, size) {
				parts = append(parts, part, nil, []byte{})
			}
			if d := sha.Sum(parts...); d != sha256.Sum256(b) {
				t.Errorf("%d bytes, in parts of %d: %x", n, size, d)
			}
		}
	}
}

// P3.1: parts go one behind the other, as they are told, the same one twice, too.
func TestOrderOfParts(t *testing.T) {
	a, b := []byte("a"), []byte("bc")
	for _, c := range []struct {
		parts [][]byte
		text  string
	}{
		{[][]byte{a, b}, "abc"}, {[][]byte{b, a}, "bca"}, {[][]byte{a, b, a}, "abca"}, {[][]byte{b, b}, "bcbc"}, {[][]byte{a, a, a}, "aaa"},
	} {
		if d := sha.Sum(c.parts...); d != sha256.Sum256([]byte(c.text)) {
			t.Errorf("%s: %x", c.text, d)
		}
	}
}

// P3.2: codes that are known (RFC 4231).
func TestKnownCodes(t *testing.T) {
	long := bytes.Repeat([]byte{0xAA}, 131)
	for _, c := range []struct {
		key, text []byte
		want      string
	}{
		{nil, nil, "b613679a 0814d9ec 772f95d7 78c35fc5 ff1697c4 93715653 c6c71214 4292c5ad"},
		{bytes.Repeat([]byte{0x0B}, 20), []byte("Hi There"), "b0344c61 d8db3853 5ca8afce af0bf12b 881dc200 c9833da7 26e9376c 2e32cff7"},
		{[]byte("Jefe"), []byte("what do ya want for nothing?"), "5bdcc146 bf60754e 6a042426 089575c7 5a003f08 9d273983 9dec58b9 64ec3843"},
		{long[:20], bytes.Repeat([]byte{0xDD}, 50), "773ea91e 36800e46 854db8eb d09181a7 2959098b 3ef8c122 d9635514 ced565fe"},
		{long, []byte("Test Using Larger Than Block-Size Key - Hash Key First"), "60e43159 1ee0b67f 0d8a26aa cbf5b77f 8e0bc621 3728c514 0546040f 0ee37f54"},
		{long, []byte("This is a test using a larger than block-size key and a larger than block-size data. The key needs to be hashed before being used by the HMAC algorithm."), "9b09ffa7 1b942fcb 27635fbc d5b0e944 bfdc6364 4f071393 8a7f5153 5c3a35e2"},
	} {
		if d := sha.Code(c.key, c.text); !bytes.Equal(d[:], bytesOf(c.want)) {
			t.Errorf("by %d bytes, of %q: %x, want %s", len(c.key), c.text, d, c.want)
		}
	}
}

// P3.2: keys of every length up to two blocks and more, and texts of the edges.
func TestCodesOfAllLengths(t *testing.T) {
	for size := range 140 {
		key := text(size)
		for _, n := range edges {
			b := text(n + 1)[1:]
			h := hmac.New(sha256.New, key)
			h.Write(b)
			if d := sha.Code(key, b); !bytes.Equal(d[:], h.Sum(nil)) {
				t.Errorf("by %d bytes, of %d: %x, want %x", size, n, d, h.Sum(nil))
			}
		}
	}
}

// P3.2: bytes 0 behind a key change nothing up to 64 bytes; one more makes another key of it.
func TestKeysWithBytes0Behind(t *testing.T) {
	message := []byte("what do ya want for nothing?")
	for _, size := range []int{0, 1, 31, 32, 63, 64} {
		key := text(size)
		want := sha.Code(key, message)
		for n := size; n <= 64; n++ {
			longer := append(slices.Clone(key), make([]byte, n-size)...)
			if sha.Code(longer, message) != want {
				t.Errorf("a key of %d bytes is another one at %d", size, n)
			}
		}
		tooLong := append(slices.Clone(key), make([]byte, 65-size)...)
		if sha.Code(tooLong, message) == want {
			t.Errorf("a key of %d bytes is the same one at 65", size)
		}
	}
}

// P3.2: a key of more than a block is its digest; one of a block is not.
func TestLongKeys(t *testing.T) {
	message := text(100)
	for _, size := range []int{63, 64, 65, 66, 127, 128, 129, 5000} {
		key := text(size)
		short := sha256.Sum256(key)
		if same := sha.Code(key, message) == sha.Code(short[:], message); same != (size > 64) {
			t.Errorf("a key of %d bytes is its digest: %v", size, same)
		}
	}
}

// P3.2: the key and the text are told apart.
func TestCodeTellsKeyAndTextApart(t *testing.T) {
	l := [][32]byte{
		sha.Code([]byte("ab"), []byte("c")), sha.Code([]byte("a"), []byte("bc")), sha.Code(nil, []byte("abc")), sha.Code([]byte("abc"), nil),
		sha.Code([]byte("c"), []byte("ab")), sha.Sum([]byte("abc")),
	}
	for i, d := range l {
		if slices.Index(l, d) != i {
			t.Errorf("code %d is one of those ahead of it", i)
		}
	}
}

// pair says the digest above two, as the chapter has it.
func pair(a, b [32]byte) [32]byte {
	return sha256.Sum256(slices.Concat([]byte{1}, a[:], b[:]))
}

// tree says a tree's digest from below: trees of powers of two are joined as they come to be as large as the last one, and what is left from the end on.
func tree(l [][32]byte) [32]byte {
	if len(l) == 0 {
		return sha256.Sum256(nil)
	}
	var done [][32]byte
	for i, d := range l {
		for n := i + 1; n%2 == 0; n /= 2 {
			d = pair(done[len(done)-1], d)
			done = done[:len(done)-1]
		}
		done = append(done, d)
	}
	for len(done) > 1 {
		last := len(done) - 1
		done = append(done[:last-1], pair(done[last-1], done[last]))
	}
	return done[0]
}

// P3.3: of none, of one, and of few.
func TestSmallTrees(t *testing.T) {
	l := digests(9)
	two, four := pair(l[0], l[1]), pair(pair(l[0], l[1]), pair(l[2], l[3]))
	eight := pair(four, pair(pair(l[4], l[5]), pair(l[6], l[7])))
	for n, want := range map[int][32]byte{
		0: sha256.Sum256(nil), 1: l[0], 2: two, 3: pair(two, l[2]), 4: four, 5: pair(four, l[4]), 6: pair(four, pair(l[4], l[5])),
		7: pair(four, pair(pair(l[4], l[5]), l[6])), 8: eight, 9: pair(eight, l[8]),
	} {
		if d := sha.Tree(l[:n]); d != want {
			t.Errorf("of %d: %x, want %x", n, d, want)
		}
	}
	if sha.Tree(nil) != sha256.Sum256(nil) || sha.Tree([][32]byte{{}}) != [32]byte{} {
		t.Error("of none, or of one that is all 0")
	}
}

// P3.3: as many as an image has chunks, with its own digest, and more: powers of two, one less, and one more.
func TestTrees(t *testing.T) {
	l := digests(1026)
	for n := range l {
		if n > 140 && n < 510 || n > 516 && n < 1022 {
			continue
		}
		if d := sha.Tree(l[:n]); d != tree(l[:n]) {
			t.Errorf("of %d: %x, want %x", n, d, tree(l[:n]))
		}
	}
}

// P3.3: digests that are alike count as often as they are there, and their places count.
func TestTreesOfLikeDigests(t *testing.T) {
	a, b := [32]byte{1}, [32]byte{2}
	l := [][][32]byte{{}, {a}, {a, a}, {a, a, a}, {a, a, a, a}, {a, b}, {b, a}, {a, b, a}, {b, a, a}, {a, a, b}, {a, a, a, b}, {{}}, {{}, {}}, {{}, {}, {}}}
	var seen [][32]byte
	for _, x := range l {
		d := sha.Tree(x)
		if slices.Contains(seen, d) {
			t.Errorf("the tree of %v is that of another list", x)
		}
		if d != tree(x) {
			t.Errorf("the tree of %v is %x", x, d)
		}
		seen = append(seen, d)
	}
}

// P3.4: two trees as large as one power of two make the tree of twice as many.
func TestTreesOfTwoTrees(t *testing.T) {
	l := digests(512)
	for half := 1; half <= 256; half *= 2 {
		left, right := sha.Tree(l[:half]), sha.Tree(l[half:2*half])
		if d := sha.Tree(l[:2*half]); d != sha.Sum([]byte{1}, left[:], right[:]) {
			t.Errorf("of twice %d: %x", half, d)
		}
	}
}

// R4: what is handed in stays as it is, its spare room included.
func TestHandedInStays(t *testing.T) {
	room := text(300)
	was := slices.Clone(room)
	parts := [][]byte{room[:3], room[3:70], nil, room[10:200], room[299:]}
	list := slices.Clone(parts)
	sha.Sum(parts...)
	for _, size := range []int{0, 5, 63, 64, 65, 200} {
		sha.Code(room[:size], room[:100])
		sha.Code(room[50:50+size], room[:size])
	}
	if !bytes.Equal(room, was) {
		t.Errorf("bytes that were handed in are %v by now", room)
	}
	for i, p := range parts {
		if len(p) != len(list[i]) || cap(p) != cap(list[i]) || len(p) > 0 && &p[0] != &list[i][0] {
			t.Errorf("the part %d is another one by now", i)
		}
	}
	l := digests(40)
	before := slices.Clone(l)
	for n := range l {
		sha.Tree(l[:n])
	}
	if !slices.Equal(l, before) {
		t.Error("digests that were handed in are others by now")
	}
}

// R4, R5: nothing is kept: what was handed in may change, and the next call answers by its own arguments alone.
func TestNothingIsKept(t *testing.T) {
	b, key, l := text(130), text(20), digests(5)
	sum, code, root := sha.Sum(b[:64], b[64:]), sha.Code(key, b), sha.Tree(l)
	same := func() bool {
		return sha.Sum(text(130)) == sum && sha.Code(text(20), text(130)) == code && sha.Tree(digests(5)) == root
	}
	clear(b)
	clear(key)
	clear(l)
	if !same() {
		t.Error("what was handed in was kept")
	}
	if sha.Sum(b) == sum || sha.Code(key, b) == code || sha.Tree(l) == root {
		t.Error("other arguments have the same answers")
	}
	answer := sha.Sum(text(130))
	clear(answer[:])
	one := digests(1)
	leaf := sha.Tree(one)
	clear(leaf[:])
	if !same() || one[0] != digests(1)[0] {
		t.Error("what was answered was kept")
	}
}
