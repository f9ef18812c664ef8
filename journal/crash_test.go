package journal_test

import (
	"testing"

	"shipwright/api"
	"shipwright/disk"
	"shipwright/journal"
)

// begins tells of records that are no beginning of what they were, or lack some that were forced.
func begins(t *testing.T, now, were [][]byte, forced int) {
	t.Helper()
	if len(now) < forced || len(now) > len(were) || !same(now, were[:len(now)]) {
		t.Errorf("records %q; they were %q, the first %d forced", now, were, forced)
	}
}

// again lets the machine crash and come up, and opens its journal.
func again(t *testing.T, d *disk.Disk, from, blocks int, fates ...int) *journal.Journal {
	t.Helper()
	d.Crash(fates)
	d.Start()
	return open(t, d, from, blocks)
}

// P7.3: a block that is torn at each number of bytes is a record, or none: none before all of it lasts, the bytes 0 at its end apart.
func TestTornRecord(t *testing.T) {
	for fate := -1; fate <= 66; fate++ {
		d := made(t, 3)
		j := open(t, d, 0, 3)
		add(t, j, []byte("one"))
		force(t, j)
		add(t, j, []byte("two"))
		k := again(t, d, 0, 3, fate)
		want := [][]byte{[]byte("one")}
		if fate >= 64 {
			want = append(want, []byte("two"))
		}
		stands(t, k, 3-len(want), 2, want...)
	}
}

// P7.3: of a record of three blocks each may be lost, torn or whole: without one there is no record.
func TestTornBlocks(t *testing.T) {
	few := []int{-1, 0, 1, 7, 8, 9, 11, 12, 40, 56, 57, 63, 64, 65}
	for _, a := range few {
		for _, b := range few {
			for _, c := range few {
				d := made(t, 6)
				j := open(t, d, 1, 5)
				add(t, j, []byte("one"))
				force(t, j)
				add(t, j, text(1, 100))
				add(t, j, []byte("end"))
				were := j.Records()
				k := again(t, d, 1, 5, a, b, c, 64)
				want := were[:1]
				if a >= 64 && b >= 64 && c >= 64 {
					want = were
				}
				if !same(k.Records(), want) {
					t.Fatalf("fates %d, %d, %d: %q", a, b, c, k.Records())
				}
			}
		}
	}
}

// P7.3: over blocks that an earlier life left, whole and torn, at each two fates of a record's two blocks.
func TestTornOverEarlierLives(t *testing.T) {
	for _, left := range [][]block{
		append(blocksOf(1, text(1, 88)), blocksOf(1, []byte("left"))...),
		append(append(blocksOf(1, []byte("x")), blocksOf(1, []byte("y"))...), blocksOf(1, []byte("z"))...),
		append(blocksOf(255, text(2, 88))[1:], blocksOf(255, text(2, 88))...),
		{part{256, 3, 1, 0, text(3, 3), 255}.block(), part{255, 44, 0, 0, text(4, 44), 255}.block(), part{3, 5, 1, 0, text(5, 5), 3}.block()},
	} {
		for a := 0; a <= 64; a++ {
			for b := 0; b <= 64; b++ {
				d := held(t, append(append(blocksOf(1, []byte("one")), block{}), left...)...)
				j := open(t, d, 0, 5)
				stands(t, j, 4, j.Life(), []byte("one"))
				add(t, j, []byte("two"))
				force(t, j)
				add(t, j, text(9, 50))
				were := j.Records()
				k := again(t, d, 0, 5, a, b)
				begins(t, k.Records(), were, 2)
				if whole := a == 64 && b == 64; (len(k.Records()) == 3) != whole {
					t.Errorf("%d records", len(k.Records()))
				}
				if t.Failed() {
					t.Fatalf("fates %d, %d", a, b)
				}
			}
		}
	}
}

// P7.3: a forced record stands behind crash and crash, whatever is laid behind it.
func TestForcedRecordsStand(t *testing.T) {
	for fate := 0; fate <= 64; fate++ {
		d := made(t, 8)
		j := open(t, d, 0, 8)
		add(t, j, text(1, 60))
		add(t, j, []byte("two"))
		force(t, j)
		were := j.Records()
		for i := range 20 {
			add(t, j, text(i, 90))
			life := j.Life()
			j = again(t, d, 0, 8, 64, fate)
			begins(t, j.Records(), were, 2)
			if len(j.Records()) != 2 || j.Life() < life+1 {
				t.Errorf("%q, life %d behind %d", j.Records(), j.Life(), life)
			}
		}
	}
}

// luck is a row of numbers that looks like chance, the same each time.
type luck uint64

func (x *luck) below(n int) int {
	*x = *x*6364136223846793005 + 1442695040888963407
	return int(uint64(*x>>33) % uint64(n))
}

// fate is a number of bytes, mostly one at which a block is lost, torn near its ends, or whole.
func (x *luck) fate() int {
	few := []int{0, 0, 6, 7, 8, 9, 10, 11, 12, 55, 56, 57, 62, 63, 64, 64, 64, 64}
	if n := x.below(len(few) + 6); n < len(few) {
		return few[n]
	}
	return x.below(65)
}

// many is how many bytes a record has, mostly few.
func (x *luck) many() int {
	if x.below(4) > 0 {
		return 1 + x.below(44)
	}
	return 1 + x.below(200)
}

// P7.3: crash behind crash, with records laid, and forced or not, between them.
func TestManyCrashes(t *testing.T) {
	const from, blocks = 3, 30
	x := luck(1)
	for disks := range 300 {
		d := made(t, from+blocks+3)
		for n := range d.Blocks() {
			if n < from || n >= from+blocks {
				write(t, d, n, beside(n))
			}
		}
		d.Flush()
		were, forced := [][]byte(nil), 0
		for crash := range 60 {
			j := open(t, d, from, blocks)
			begins(t, j.Records(), were, forced)
			// What stands was read from the disk, where it lasts by now.
			were = j.Records()
			forced = len(were)
			for range x.below(5) {
				b := text(x.below(1000), x.many())
				room := j.Room()
				err := j.Append(b)
				if (err == api.OK) != (room >= (len(b)+43)/44) {
					t.Errorf("with %d blocks left, Append of %d bytes: %d", room, len(b), err)
				}
				if err == api.OK {
					were = append(were, b)
				}
				if x.below(6) == 0 {
					force(t, j)
					forced = len(were)
				}
			}
			if !same(j.Records(), were) {
				t.Errorf("records %q, want %q", j.Records(), were)
			}
			fates := make([]int, x.below(12))
			for i := range fates {
				fates[i] = x.fate()
			}
			d.Crash(fates)
			d.Start()
			if t.Failed() {
				t.Fatalf("the disk %d, the crash %d", disks, crash)
			}
		}
		for n := range d.Blocks() {
			if n < from || n >= from+blocks {
				lies(t, d, n, beside(n))
			}
		}
	}
}
