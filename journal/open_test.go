package journal_test

import (
	"bytes"
	"encoding/binary"
	"math"
	"testing"
)

// top is the greatest life that a good block may have.
const top = 1 << 40

// isGood tells whether the i-th block is good, in the chapter's words; those ahead of it are.
func isGood(l []block, i int) bool {
	b := l[i]
	life, many := binary.BigEndian.Uint64(b[:8]), binary.BigEndian.Uint16(b[8:10])
	fits := !bytes.Equal(b[:8], make([]byte, 8)) && life <= top && bytes.Equal(b[:8], b[56:])
	if i > 0 {
		ahead := binary.BigEndian.Uint64(l[i-1][:8])
		fits = fits && ahead <= life
		if l[i-1][10] == 0 {
			fits = fits && ahead == life
		}
	}
	switch b[10] {
	case 0:
		fits = fits && many == 44
	case 1:
		fits = fits && many > 0 && many < 45
	default:
		fits = false
	}
	return fits && b[11] == 0
}

// found is what Open finds in blocks, in the chapter's words: the records, how many blocks are left, and the life.
func found(l []block) (records [][]byte, room int, life int64) {
	room = len(l)
	var record []byte
	for i := 0; i < len(l) && isGood(l, i); i++ {
		record = append(record, l[i][12:12+int(l[i][9])]...)
		if l[i][10] == 1 {
			records, record, room = append(records, record), nil, len(l)-i-1
		}
	}
	for _, b := range l {
		for _, n := range []uint64{binary.BigEndian.Uint64(b[:8]), binary.BigEndian.Uint64(b[56:])} {
			if n <= top {
				life = max(life, int64(n))
			}
		}
	}
	return records, room, life + 1
}

// finds opens blocks, and holds what comes of it against the chapter's words, and against how many records there are.
func finds(t *testing.T, name string, want int, l ...block) {
	t.Helper()
	d := held(t, l...)
	j := open(t, d, 0, len(l))
	records, room, life := found(l)
	if len(records) != want {
		t.Errorf("%s: the chapter's words have %d records, want %d", name, len(records), want)
	}
	if !same(j.Records(), records) || j.Room() != room || j.Life() != life {
		t.Errorf("%s: records %q, room %d, life %d; want %q, %d, %d", name, j.Records(), j.Room(), j.Life(), records, room, life)
	}
	lies(t, d, 0, l...)
}

// change is what makes one of a journal's blocks another one, and whether it is good all the same.
type change struct {
	name string
	good bool
	of   func(p *part)
}

// changes are of the blocks of life 5, behind others of life 5.
func changes() []change {
	both := func(life uint64) func(p *part) {
		return func(p *part) { p.head, p.tail = life, life }
	}
	many := func(n uint16) func(p *part) {
		return func(p *part) { p.many = n }
	}
	return []change{
		{"nothing", true, func(*part) {}},
		{"the head one less", false, func(p *part) { p.head-- }},
		{"the head one more", false, func(p *part) { p.head++ }},
		{"the tail one less", false, func(p *part) { p.tail-- }},
		{"the tail one more", false, func(p *part) { p.tail++ }},
		{"another tail's first byte", false, func(p *part) { p.tail |= 1 << 56 }},
		{"another head's first byte", false, func(p *part) { p.head |= 1 << 56 }},
		{"no head", false, func(p *part) { p.head = 0 }},
		{"no tail", false, func(p *part) { p.tail = 0 }},
		{"the life 0", false, both(0)},
		{"a life below", false, both(4)},
		{"the life 1", false, both(1)},
		{"a life above 2^40", false, both(top + 1)},
		{"a life of 2^63", false, both(1 << 63)},
		{"the greatest life", false, both(math.MaxUint64)},
		{"a life whose last bytes are the same", false, both(5 | 1<<48)},
		{"a flag of 2", false, func(p *part) { p.last = 2 }},
		{"a flag of 3", false, func(p *part) { p.last = 3 }},
		{"a flag of 255", false, func(p *part) { p.last = 255 }},
		{"another byte 1", false, func(p *part) { p.blank = 1 }},
		{"another byte 255", false, func(p *part) { p.blank = 255 }},
		{"no byte", false, many(0)},
		{"45 bytes", false, many(45)},
		{"44 bytes and 256", false, many(300)},
		{"1 byte and 256", false, many(257)},
		{"256 bytes", false, many(256)},
		{"all bytes", false, many(65535)},
	}
}

// P7.1: each reason for which a block is not good, at the first record, at one behind, and within one.
func TestGoodBlocks(t *testing.T) {
	for _, c := range changes() {
		for many := uint16(1); many <= 44; many++ {
			last := part{5, many, 1, 0, text(1, int(many)), 5}
			c.of(&last)
			want := 1
			if c.good {
				want = 2
			}
			one := blocksOf(5, []byte("one"))[0]
			finds(t, c.name+", behind a record", want, one, last.block())
			finds(t, c.name+", ahead of one", want+min(want-1, 1), one, last.block(), one)
			finds(t, c.name+", in a record of two", want, one, blocksOf(5, text(3, 45))[0], last.block())
			finds(t, c.name+", in the first record", want-1, blocksOf(5, text(3, 45))[0], last.block(), block{})
		}
		part := part{5, 44, 0, 0, text(2, 44), 5}
		c.of(&part)
		want := 0
		if c.good {
			want = 1
		}
		finds(t, c.name+", not the last one", want, part.block(), blocksOf(5, []byte("end"))[0])
		finds(t, c.name+", not the last one, behind a record", want+1, blocksOf(5, []byte("one"))[0], part.block(), blocksOf(5, []byte("end"))[0])
		finds(t, c.name+", not the last one, behind such", want, blocksOf(5, text(4, 45))[0], part.block(), blocksOf(5, []byte("end"))[0])
	}
}

// P7.1: a block that is not its record's last one has 44 bytes, neither fewer nor more.
func TestBlocksThatAreNotTheLast(t *testing.T) {
	for many := range 70 {
		want := 0
		if many == 44 {
			want = 1
		}
		finds(t, "a block of so many bytes", want, part{1, uint16(many), 0, 0, text(1, 44), 1}.block(), blocksOf(1, []byte("end"))[0])
	}
}

// P7.1: the bytes behind a record's last ones do not make a block good, nor bad.
func TestBytesBehind(t *testing.T) {
	for many := uint16(1); many <= 44; many++ {
		b := part{1, many, 1, 0, text(1, 44), 1}.block()
		finds(t, "other bytes behind", 1, b)
		j := open(t, held(t, b), 0, 1)
		stands(t, j, 0, 2, text(1, 44)[:many])
	}
}

// P7.1: the lives of records one behind the other, and within one.
func TestLivesInOrder(t *testing.T) {
	lives := []uint64{0, 1, 2, 255, 256, 257, top - 1, top, top + 1, math.MaxUint64}
	for _, a := range lives {
		for _, b := range lives {
			want := 0
			if a > 0 && a <= top {
				want = 1
				if b >= a && b <= top {
					want = 2
				}
			}
			finds(t, "two records", want, blocksOf(a, []byte("a"))[0], blocksOf(b, []byte("b"))[0])
			want = 0
			if a == b && a > 0 && a <= top {
				want = 1
			}
			finds(t, "one record", want, blocksOf(a, text(1, 45))[0], blocksOf(b, []byte("b"))[0])
		}
	}
	// Below the one ahead, not below any: the block between is not good, and those behind it do not count.
	finds(t, "down and up", 1, blocksOf(5, []byte("a"))[0], blocksOf(4, []byte("b"))[0], blocksOf(6, []byte("c"))[0])
	finds(t, "up", 3, blocksOf(4, []byte("a"))[0], blocksOf(5, []byte("b"))[0], blocksOf(6, []byte("c"))[0])
	finds(t, "up and down", 2, blocksOf(4, []byte("a"))[0], blocksOf(6, []byte("b"))[0], blocksOf(5, []byte("c"))[0])
	// The one ahead is of another record, of many blocks.
	finds(t, "behind two blocks", 1, append(blocksOf(5, text(1, 88)), blocksOf(4, []byte("b"))[0])...)
	finds(t, "behind two blocks", 2, append(blocksOf(5, text(1, 88)), blocksOf(7, []byte("b"))[0])...)
	finds(t, "two blocks behind one", 2, append(blocksOf(5, []byte("b")), blocksOf(6, text(1, 88))...)...)
	finds(t, "two blocks behind one", 1, append(blocksOf(5, []byte("b")), blocksOf(4, text(1, 88))...)...)
}

// P7.1: a record whose last block is not there is none, whatever ends it.
func TestRecordsWithoutEnd(t *testing.T) {
	for many := 45; many <= 2000; many += 43 {
		all := blocksOf(3, text(many, many))
		one := blocksOf(3, []byte("one"))[0]
		finds(t, "all of it", 2, append([]block{one}, all...)...)
		for cut := range len(all) {
			l := append([]block{one}, all[:cut]...)
			finds(t, "where the blocks end", 1, l...)
			finds(t, "where a block is 0", 1, append(l[:len(l):len(l)], block{}, one)...)
			finds(t, "where an earlier life goes on", 1, append(l[:len(l):len(l)], blocksOf(2, []byte("old"))...)...)
			j := open(t, held(t, append(l[:len(l):len(l)], block{}, one)...), 0, cut+3)
			stands(t, j, cut+2, 4, []byte("one"))
		}
	}
}

// P7.1: where a record is not whole, the journal goes on at its first block, and what is left of it is none of the next one.
func TestOverRecordsWithoutEnd(t *testing.T) {
	for many := 1; many <= 200; many++ {
		l := append(blocksOf(3, []byte("one")), blocksOf(3, text(7, 132))[:2]...)
		d := held(t, append(l, blocksOf(2, text(8, 200))...)...)
		j := open(t, d, 0, 8)
		stands(t, j, 7, 4, []byte("one"))
		add(t, j, text(many, many))
		lies(t, d, 0, append(blocksOf(3, []byte("one")), blocksOf(4, text(many, many))...)...)
		stands(t, open(t, d, 0, 8), 7-(many+43)/44, 5, []byte("one"), text(many, many))
	}
}

// P7.1: blocks of an earlier life behind those of a later one are no records, and are laid over.
func TestEarlierLivesBehind(t *testing.T) {
	d := made(t, 6)
	j := open(t, d, 0, 6)
	add(t, j, []byte("a"))
	force(t, j)
	add(t, j, []byte("b"))
	add(t, j, []byte("c"))
	add(t, j, text(1, 100))
	d.Crash([]int{0, 64, 64, 64, 64})
	d.Start()
	k := open(t, d, 0, 6)
	stands(t, k, 5, 2, []byte("a"))
	add(t, k, []byte("new"))
	stands(t, open(t, d, 0, 6), 4, 3, []byte("a"), []byte("new"))
	add(t, k, []byte("more"))
	stands(t, open(t, d, 0, 6), 3, 3, []byte("a"), []byte("new"), []byte("more"))
	add(t, k, text(2, 45))
	stands(t, open(t, d, 0, 6), 1, 3, []byte("a"), []byte("new"), []byte("more"), text(2, 45))
}

// P7.1: the life is behind the greatest one, at whichever end of whichever block it stands.
func TestLife(t *testing.T) {
	for _, c := range []struct {
		life uint64
		want int64
	}{
		{0, 1}, {1, 2}, {2, 3}, {255, 256}, {256, 257}, {1 << 32, 1<<32 + 1}, {top - 1, top}, {top, top + 1},
		{top + 1, 1}, {top + 2, 1}, {top << 1, 1}, {1 << 63, 1}, {1<<63 + 7, 1}, {math.MaxInt64, 1}, {math.MaxUint64, 1}, {math.MaxUint64 - 1, 1},
	} {
		for at := range 4 {
			for _, p := range []part{{head: c.life}, {tail: c.life}, {head: c.life, tail: c.life}, {head: c.life, last: 2, tail: math.MaxUint64}, {head: top + 1, tail: c.life}} {
				l := make([]block, 4)
				l[at] = p.block()
				finds(t, "one block", 0, l...)
				stands(t, open(t, held(t, l...), 0, 4), 4, c.want)
				// Others have less, or what does not count.
				for i := range l {
					if i != at {
						l[i] = part{head: 1 << 50, tail: c.life / 3}.block()
					}
				}
				_, _, life := found(l)
				stands(t, open(t, held(t, l...), 0, 4), 4, max(c.want, life))
			}
		}
	}
}

// P7.1: the lives beside the journal's blocks do not count, nor do the blocks that would go on with its records.
func TestBlocksBesideDoNotCount(t *testing.T) {
	all := blocksOf(9, text(1, 132))
	l := append(append(blocksOf(8, []byte("ahead")), blocksOf(2, []byte("one"))...), blocksOf(2, []byte("two"))...)
	l = append(l, all...)
	for from := range len(l) + 1 {
		for blocks := range len(l) - from + 1 {
			d := held(t, l...)
			records, room, life := found(l[from : from+blocks])
			j := open(t, d, from, blocks)
			stands(t, j, room, life, records...)
			lies(t, d, 0, l...)
			if room > 0 {
				add(t, j, []byte("x"))
				lies(t, d, 0, l[:from+blocks-room]...)
				lies(t, d, from+blocks, l[from+blocks:]...)
			}
		}
	}
}

// P7.1: behind the greatest life of all comes one that no good block has.
func TestBehindTheGreatestLife(t *testing.T) {
	d := held(t, append(blocksOf(top, []byte("one")), block{}, block{})...)
	j := open(t, d, 0, 3)
	stands(t, j, 2, top+1, []byte("one"))
	add(t, j, []byte("two"))
	lies(t, d, 1, blocksOf(top+1, []byte("two"))...)
	stands(t, j, 1, top+1, []byte("one"), []byte("two"))
	stands(t, open(t, d, 0, 3), 2, top+1, []byte("one"))
}

// P7.1: each row of some blocks, that are good or not for one reason each, held against the chapter's words.
func TestRowsOfBlocks(t *testing.T) {
	kinds := []block{
		{},
		blocksOf(1, []byte("a"))[0],
		blocksOf(2, text(1, 44))[0],
		blocksOf(1, text(2, 45))[0],
		blocksOf(2, text(3, 45))[0],
		blocksOf(top, []byte("b"))[0],
		part{2, 3, 1, 0, text(4, 3), 1}.block(),
		part{2, 45, 1, 0, text(5, 44), 2}.block(),
		part{1, 44, 2, 0, text(6, 44), 1}.block(),
		part{2, 44, 0, 1, text(7, 44), 2}.block(),
		part{top + 1, 1, 1, 0, text(8, 1), top + 1}.block(),
	}
	n := len(kinds)
	for row := range n * n * n * n {
		l := []block{kinds[row%n], kinds[row/n%n], kinds[row/n/n%n], kinds[row/n/n/n]}
		records, _, _ := found(l)
		finds(t, "a row", len(records), l...)
		if t.Failed() {
			t.Fatalf("the row %d", row)
		}
	}
}

// P7.1: one byte of good blocks is changed: held against the chapter's words, at each place, by each change.
func TestChangedBytes(t *testing.T) {
	l := append(append(blocksOf(1, []byte("one")), blocksOf(258, text(1, 60))...), blocksOf(258, []byte("end"))...)
	for n := range l {
		for at := range l[n] {
			for by := 1; by < 256; by++ {
				l[n][at] ^= byte(by)
				records, room, life := found(l)
				stands(t, open(t, held(t, l...), 0, len(l)), room, life, records...)
				l[n][at] ^= byte(by)
			}
		}
		if t.Failed() {
			t.Fatalf("the block %d", n)
		}
	}
}
