package lease_test

import (
	"math"
	"math/big"
	"testing"

	"shipwright/api"
	"shipwright/lease"
)

// maxTry is the greatest n that counts.
const maxTry = int64(1) << 40

// toldSlot is what the chapter's words say of a Slot, of a plan that may be, by numbers that know no end.
func toldSlot(c api.Config, node int, n int64) int {
	if node < 0 || n < 0 || node > 1000 || n > maxTry {
		return 0
	}
	both := new(big.Int).Add(big.NewInt(int64(node)), big.NewInt(n))
	return int(both.Mod(both, big.NewInt(int64(c.Slots))).Int64())
}

// mustTry tells of a node that asks for another slot than it should.
func mustTry(t *testing.T, c api.Config, node int, n int64, want int) {
	t.Helper()
	if got := lease.Slot(c, node, n); got != want {
		t.Errorf("Slot(%d, %d) of %d slots: %d instead of %d", node, n, c.Slots, got, want)
	}
}

// P16.3: node and n together, modulo the slots, around all that the chapter names, and at the ends of their types.
func TestSlot(t *testing.T) {
	nodes := append([]int{0, 1, 2, 3, 4, 5, 6, 7, 8, 9, 998, 999, 1000, 1001, 1002, 1008, 1009}, ends...)
	tries := append([]int64{3, 4, 5, 6, 8, 9, 10, 1000, maxTry - 2, maxTry - 1, maxTry, maxTry + 1, maxTry + 2, maxTry + 9, 2 * maxTry}, numbers...)
	for slots := 1; slots <= api.MaxNodes; slots++ {
		c := sized(9, slots)
		for _, node := range nodes {
			for _, n := range tries {
				mustTry(t, c, node, n, toldSlot(c, node, n))
			}
		}
	}
}

// P16.3: some, told by hand.
func TestSomeSlots(t *testing.T) {
	c := sized(9, 7)
	for _, x := range []struct {
		node int
		n    int64
		want int
	}{
		{0, 0, 0}, {1, 0, 1}, {0, 1, 1}, {1, 1, 2}, {6, 0, 6}, {6, 1, 0}, {3, 4, 0}, {3, 5, 1}, {8, 8, 2},
		{-1, 1, 0}, {-1, 3, 0}, {1, -1, 0}, {3, -1, 0}, {-1, -1, 0}, {-5, 9, 0}, {9, -5, 0},
		{1000, 0, 6}, {1000, 1, 0}, {1000, 2, 1}, {1001, 0, 0}, {1001, 2, 0}, {1002, 2, 0},
		{0, maxTry, 2}, {3, maxTry, 5}, {0, maxTry - 1, 1}, {1000, maxTry, 1}, {0, maxTry + 1, 0}, {3, maxTry + 1, 0}, {1001, maxTry, 0}, {1000, maxTry + 1, 0},
		{math.MaxInt, 1, 0}, {1, math.MaxInt64, 0}, {math.MaxInt, math.MaxInt64, 0}, {math.MinInt, 3, 0}, {3, math.MinInt64, 0}, {math.MinInt, math.MinInt64, 0},
	} {
		mustTry(t, c, x.node, x.n, x.want)
	}
}

// P16.3: a node need not be one of the plan's, and of one slot there is just that.
func TestSlotOfOthers(t *testing.T) {
	for _, slots := range []int{1, 2, 3} {
		c := sized(3, slots)
		for node := range 1003 {
			for n := range int64(4) {
				mustTry(t, c, node, n, toldSlot(c, node, n))
				if slots == 1 {
					mustTry(t, c, node, n, 0)
				}
			}
		}
	}
}

// P16.3: each time a node tries the next slot, and each one within as many tries as there are slots, the last ones that count too.
func TestSlotsTakeTurns(t *testing.T) {
	for _, c := range plans() {
		for _, first := range []int64{0, 1, 5, 1 << 32, maxTry - int64(c.Slots) + 1} {
			for node := range c.Nodes {
				seen := make([]int, c.Slots)
				for n := first; n < first+int64(c.Slots); n++ {
					slot := lease.Slot(c, node, n)
					if slot < 0 || slot >= c.Slots {
						t.Fatalf("Slot(%d, %d) of %d slots: %d", node, n, c.Slots, slot)
					}
					seen[slot]++
					if n > first && slot != (lease.Slot(c, node, n-1)+1)%c.Slots {
						t.Errorf("Slot(%d, %d) of %d slots: %d", node, n, c.Slots, slot)
					}
				}
				for slot, times := range seen {
					if times != 1 {
						t.Errorf("node %d tries the slot %d %d times", node, slot, times)
					}
				}
			}
		}
	}
}
