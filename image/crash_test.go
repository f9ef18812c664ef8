package image_test

import (
	"testing"

	"shipwright/api"
	"shipwright/disk"
	"shipwright/image"
)

// pointing writes what Point would write, and stops ahead of its flush; it answers where that stands.
func pointing(t *testing.T, d *disk.Disk, at int, b api.Boot) int {
	t.Helper()
	l := make([]block, d.Blocks())
	was := all(t, d)
	for n := range l {
		l[n] = block(was[64*n:])
	}
	twin := held(t, l...)
	point(t, twin, at, b)
	place := -1
	for n := range l {
		now, _ := twin.Read(n)
		if now != l[n] {
			if place >= 0 {
				t.Fatalf("Point wrote the blocks %d and %d", place, n)
			}
			place = n
			write(t, d, n, now)
		}
	}
	if place != at && place != at+1 {
		t.Fatalf("Point wrote the block %d", place)
	}
	return place
}

// crash lets the machine go down and come up: of the block n, that is not flushed, so many bytes last, and of others all or none.
func crash(d *disk.Disk, n, fate, others int) {
	var fates []int
	for _, m := range d.Dirty() {
		if m == n {
			fates = append(fates, fate)
		} else {
			fates = append(fates, others)
		}
	}
	d.Crash(fates)
	d.Start()
}

// either tells of a machine that starts neither what it did, nor what it was to; before all bytes of the block last it is to start what it did.
func either(t *testing.T, d *disk.Disk, at, fate int, boot api.Boot, count int64, err api.Errno, next api.Boot) {
	t.Helper()
	if fate >= api.Block {
		boot, count, err = next, count+1, api.OK
	}
	starts(t, d, at, boot, count, err)
}

// P8.4: behind counts of each kind, a crash at each number of bytes of the block, and what is pointed at behind it.
func TestCrashesWithinPoint(t *testing.T) {
	for _, count := range []uint64{0, 1, 2, 3, 4, 5, 254, 255, 256, 257, 258, 65535, 65536, 65537, 1<<24 - 1, 1 << 24, 1<<32 - 1, 1 << 32, 1<<32 + 1, top - 3, top - 2, top - 1} {
		for fate := -1; fate <= 66; fate++ {
			// Both blocks are as Points laid them, one behind the other.
			var l [2]block
			if count > 0 {
				l[1-count%2] = partOf(bootOf(1, 1), count).block()
			}
			if count > 1 {
				l[count%2] = partOf(bootOf(0, 2), count-1).block()
			}
			d := around(t, l[0], l[1])
			boot, n, err := image.Start(d, 1)
			next := bootOf(0, 3)
			crash(d, pointing(t, d, 1, next), fate, 0)
			either(t, d, 1, fate, boot, n, err, next)
			// It goes on from there, and nothing of what was torn is left.
			want, m, _ := image.Start(d, 1)
			if m < top {
				want, m = bootOf(1, 4), m+1
				point(t, d, 1, want)
			}
			crash(d, -1, 0, 0)
			starts(t, d, 1, want, m, api.OK)
		}
		if t.Failed() {
			t.Fatalf("the count %d", count)
		}
	}
}

// P8.4: a crash at each number of bytes, behind one at each other: what the first one left is no boot of any kind, and is not made one by the second.
func TestCrashBehindCrash(t *testing.T) {
	for _, count := range []uint64{0, 1, 2, 254, 255, 256, 65534, 65535, 65536, top - 1} {
		var l [2]block
		if count > 0 {
			l[1-count%2] = partOf(bootOf(1, 1), count).block()
		}
		if count > 1 {
			l[count%2] = partOf(bootOf(0, 2), count-1).block()
		}
		for first := range 64 {
			for second := range 65 {
				d := around(t, l[0], l[1])
				boot, n, err := image.Start(d, 1)
				crash(d, pointing(t, d, 1, bootOf(0, 3)), first, 0)
				either(t, d, 1, first, boot, n, err, api.Boot{})
				next := bootOf(1, 4)
				crash(d, pointing(t, d, 1, next), second, 0)
				either(t, d, 1, second, boot, n, err, next)
				if t.Failed() {
					t.Fatalf("behind the count %d, %d and %d bytes", count, first, second)
				}
			}
		}
	}
}

// P8.4: crash behind crash, with images put, and pointed at or not, between them: what is started is whole, if it was when it was pointed at.
func TestManyCrashes(t *testing.T) {
	const areaAt, room = 3, 4
	x := uint64(1)
	below := func(n int) int {
		x = x*6364136223846793005 + 1442695040888963407
		return int(x >> 33 % uint64(n))
	}
	for disks := range 40 {
		d := filled(t, areaAt+2*room+1)
		first := bootFor(text(disks, 100))
		first.Area = 0
		put(t, d, areaAt, room, 0, text(disks, 100))
		point(t, d, 1, first)
		starts(t, d, 1, first, 1, api.OK)
		for k := range 100 {
			boot, count, _ := image.Start(d, 1)
			other := 1 - boot.Area
			b := text(1000*disks+k, 1+below(64*room))
			next := bootFor(b)
			next.Area = other
			put(t, d, areaAt+other*room, room, 0, b)
			fate := 64
			switch below(3) {
			case 0:
				// It goes down while the image is not whole.
				fate = 0
				crash(d, -1, 0, below(65))
			case 1:
				fate = below(65)
				d.Flush()
				crash(d, pointing(t, d, 1, next), fate, 0)
			case 2:
				d.Flush()
				point(t, d, 1, next)
				crash(d, -1, 0, 0)
			}
			either(t, d, 1, fate, boot, count, api.OK, next)
			now, _, _ := image.Start(d, 1)
			whole(t, d, areaAt+now.Area*room, room, now, api.OK)
			if t.Failed() {
				t.Fatalf("the disk %d, the step %d", disks, k)
			}
		}
	}
}
