package plru_test

import (
	"math"
	"testing"

	"atlas/plru"
)

const (
	trees = 8
	ways  = 4
)

// bit tells whether the bit i of the tree is set.
func bit(tree uint8, i int) bool { return tree>>i%2 == 1 }

// victim tells the way that is to go as the chapter does.
func victim(tree uint8) int {
	if !bit(tree, 0) {
		if !bit(tree, 1) {
			return 0
		}
		return 1
	}
	if !bit(tree, 2) {
		return 2
	}
	return 3
}

// touched are the three bits that a touch of each way leaves, from the bit 0 on: 1 if it is set then, 0 if it isn't, -1 if it stays.
var touched = [ways][3]int{
	{1, 1, -1},
	{1, 0, -1},
	{0, -1, 1},
	{0, -1, 0},
}

// touch tells bit by bit the tree when the way was touched.
func touch(tree uint8, way int) uint8 {
	var bits [3]int
	for i := range bits {
		bits[i] = touched[way][i]
		if bits[i] < 0 {
			bits[i] = int(tree >> i % 2)
		}
	}
	return uint8(bits[0] + 2*bits[1] + 4*bits[2])
}

// P11.1: of all numbers 0 to 7 are trees.
func TestIs(t *testing.T) {
	for n := range 256 {
		if got := plru.Is(uint8(n)); got != (n <= 7) {
			t.Errorf("Is(%d): %v", n, got)
		}
	}
}

// P11.1: the way that is to go, of each tree, written out and as the bits tell; asked twice, for nothing is kept.
func TestVictim(t *testing.T) {
	for range 2 {
		for tree, want := range [trees]int{0b000: 0, 0b001: 2, 0b010: 1, 0b011: 2, 0b100: 0, 0b101: 3, 0b110: 1, 0b111: 3} {
			if got := plru.Victim(uint8(tree)); got != want || got != victim(uint8(tree)) {
				t.Errorf("Victim(%03b): %d, not %d", tree, got, want)
			}
		}
	}
}

// P11.1: the bit that tells nothing of the half that is to go counts for nothing.
func TestVictimOtherHalf(t *testing.T) {
	for tree := range uint8(trees) {
		other := uint8(0b100)
		if bit(tree, 0) {
			other = 0b010
		}
		if got, want := plru.Victim(tree^other), plru.Victim(tree); got != want {
			t.Errorf("Victim(%03b): %d, Victim(%03b): %d", tree^other, got, tree, want)
		}
	}
}

// P11.1: each tree when each way was touched, written out; asked twice, for nothing is kept.
func TestTouch(t *testing.T) {
	wants := [ways][trees]uint8{
		{0b011, 0b011, 0b011, 0b011, 0b111, 0b111, 0b111, 0b111},
		{0b001, 0b001, 0b001, 0b001, 0b101, 0b101, 0b101, 0b101},
		{0b100, 0b100, 0b110, 0b110, 0b100, 0b100, 0b110, 0b110},
		{0b000, 0b000, 0b010, 0b010, 0b000, 0b000, 0b010, 0b010},
	}
	for range 2 {
		for way, row := range wants {
			for tree, want := range row {
				if got := plru.Touch(uint8(tree), way); got != want {
					t.Errorf("Touch(%03b, %d): %03b, not %03b", tree, way, got, want)
				}
			}
		}
	}
}

// P11.1: each bit of what a touch leaves, those that stay among them; what is answered is a tree.
func TestTouchBits(t *testing.T) {
	for way, row := range touched {
		for tree := range uint8(trees) {
			got := plru.Touch(tree, way)
			for i, want := range row {
				if want < 0 && bit(got, i) != bit(tree, i) {
					t.Errorf("Touch(%03b, %d): %03b, where the bit %d should stay", tree, way, got, i)
				}
				if want >= 0 && bit(got, i) != (want == 1) {
					t.Errorf("Touch(%03b, %d): %03b, where the bit %d should be %d", tree, way, got, i, want)
				}
			}
			if !plru.Is(got) {
				t.Errorf("Touch(%03b, %d): %d is no tree", tree, way, got)
			}
		}
	}
}

// P11.1: the chapter's examples.
func TestExamples(t *testing.T) {
	if got := plru.Victim(0); got != 0 {
		t.Errorf("Victim(0): %d", got)
	}
	if got := plru.Touch(0, 0); got != 3 {
		t.Errorf("Touch(0, 0): %d", got)
	}
	if got := plru.Victim(3); got != 2 {
		t.Errorf("Victim(3): %d", got)
	}
}

// P11.2: what was touched last isn't the next to go: another one of the other two ways is, since the bit 0 leads away.
func TestTouchedStays(t *testing.T) {
	for way := range ways {
		for tree := range uint8(trees) {
			got := plru.Victim(plru.Touch(tree, way))
			if got == way || got/2 == way/2 {
				t.Errorf("%d, touched in %03b, and the way %d is to go", way, tree, got)
			}
		}
	}
}

// P11.1, P11.2: a way that is touched once more changes nothing more.
func TestTouchTwice(t *testing.T) {
	for way := range ways {
		for tree := range uint8(trees) {
			once := plru.Touch(tree, way)
			if got := plru.Touch(once, way); got != once {
				t.Errorf("%d, touched twice in %03b: %03b, not %03b", way, tree, got, once)
			}
		}
	}
}

// P11.1, P11.2: up to six ways touched one behind the other, all there are, from each tree.
func TestTouchSeveral(t *testing.T) {
	var follow func(got, want uint8, path []int)
	follow = func(got, want uint8, path []int) {
		if got != want || plru.Victim(got) != victim(want) {
			t.Fatalf("%v touched: %03b, of which %d is to go, not %03b, %d", path, got, plru.Victim(got), want, victim(want))
		}
		if n := len(path); n > 0 && plru.Victim(got) == path[n-1] {
			t.Fatalf("%v touched, and the last one is to go", path)
		}
		if len(path) == 6 {
			return
		}
		for way := range ways {
			follow(plru.Touch(got, way), touch(want, way), append(path[:len(path):len(path)], way))
		}
	}
	for tree := range uint8(trees) {
		follow(tree, tree, nil)
	}
}

// P11.2: if the way that is to go is touched again and again, all four go ahead of one that goes again.
func TestAllGo(t *testing.T) {
	for start := range uint8(trees) {
		var gone [ways]bool
		tree := start
		for range ways {
			way := plru.Victim(tree)
			if gone[way] {
				t.Errorf("from %03b on the way %d goes again ahead of others", start, way)
			}
			gone[way] = true
			tree = plru.Touch(tree, way)
		}
		if tree != start {
			t.Errorf("from %03b on all four go, and %03b is left", start, tree)
		}
	}
}

// Of what is no tree, or no way, nothing is promised but that no call panics.
func TestNoPanic(t *testing.T) {
	for n := range 256 {
		plru.Victim(uint8(n))
		for _, way := range []int{0, 1, 2, 3, 4, 5, 8, -1, -2, -4, 1 << 32, math.MinInt, math.MaxInt} {
			plru.Touch(uint8(n), way)
		}
	}
}
