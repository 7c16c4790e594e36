package pte_test

import (
	"math"
	"testing"

	"atlas/api"
	"atlas/pte"
)

const (
	all     = ^uint64(0)
	ppnMost = 1<<44 - 1
)

var levels = []int{api.Small, api.Middle, api.Large}

// one is each of the eight bits alone, in the order of their places.
var one = []api.Pte{{V: true}, {R: true}, {W: true}, {X: true}, {U: true}, {G: true}, {A: true}, {D: true}}

// flags tells the entry whose eight bits are as those of n, all else 0.
func flags(n int) api.Pte {
	on := func(i int) bool { return n>>i&1 == 1 }
	return api.Pte{V: on(0), R: on(1), W: on(2), X: on(3), U: on(4), G: on(5), A: on(6), D: on(7)}
}

// word tells an entry's word as a sum.
func word(p api.Pte) uint64 {
	w, worth := uint64(0), uint64(1)
	for _, on := range []bool{p.V, p.R, p.W, p.X, p.U, p.G, p.A, p.D} {
		if on {
			w += worth
		}
		worth *= 2
	}
	return w + p.Rsw*0x100 + p.Ppn*0x400 + p.High*0x40000000000000
}

// may tells whether an entry may be, by the greatest numbers of its fields.
func may(p api.Pte) bool {
	return p.Rsw <= 3 && p.Ppn <= 17592186044415 && p.High <= 1023
}

// bad tells the chapter's causes one by one.
func bad(p api.Pte, level int) bool {
	leaf := p.V && p.R || p.V && p.X
	link := p.V && !leaf
	switch {
	case !p.V, p.W && !p.R, p.High > 0:
		return true
	case link && level == 0, link && p.A, link && p.D, link && p.U:
		return true
	case leaf && level == 1:
		return p.Ppn%512 > 0
	case leaf && level == 2:
		return p.Ppn%262144 > 0
	}
	return false
}

// near are the numbers around the greatest one of so many bits, and others far beyond it.
func near(wide int) []uint64 {
	most := uint64(1)<<wide - 1
	return []uint64{0, 1, most / 2, most - 1, most, most + 1, most + 2, most * 2, most << 8, 1 << 63, all - most, all}
}

// eachEntry goes through entries of all eight bits with fields that may be and such as may not be.
func eachEntry(see func(p api.Pte)) {
	ppns := append(near(44), 9, 511, 512, 513, 1024, 512*511, 1<<18-512, 1<<18-1, 1<<18, 1<<18+1, 1<<18+512, 3<<18, 0x123456789ab, ppnMost-511, ppnMost-1<<18+1)
	for n := range 256 {
		for _, high := range near(10) {
			for _, rsw := range []uint64{0, 1, 2, 3, 4, 5, 256, 1 << 63, all} {
				for _, ppn := range ppns {
					p := flags(n)
					p.Rsw, p.Ppn, p.High = rsw, ppn, high
					see(p)
				}
			}
		}
	}
}

// P6.1: each bit and each field of an entry that may be, at its place in the word, by Put and by Get.
func TestWord(t *testing.T) {
	for _, x := range []struct {
		p api.Pte
		w uint64
	}{
		{api.Pte{}, 0},
		{api.Pte{V: true}, 1},
		{api.Pte{R: true}, 2},
		{api.Pte{W: true}, 4},
		{api.Pte{X: true}, 8},
		{api.Pte{U: true}, 0x10},
		{api.Pte{G: true}, 0x20},
		{api.Pte{A: true}, 0x40},
		{api.Pte{D: true}, 0x80},
		{flags(255), 0xff},
		{api.Pte{Rsw: 1}, 0x100},
		{api.Pte{Rsw: 2}, 0x200},
		{api.Pte{Rsw: 3}, 0x300},
		{api.Pte{Ppn: 1}, 0x400},
		{api.Pte{Ppn: 1 << 43}, 1 << 53},
		{api.Pte{Ppn: ppnMost}, 0x3ffffffffffc00},
		{api.Pte{High: 1}, 1 << 54},
		{api.Pte{High: 512}, 1 << 63},
		{api.Pte{High: 1023}, 0xffc0000000000000},
		{api.Pte{V: true, R: true, U: true, Ppn: 5}, 0x1413},
		{api.Pte{V: true, W: true, G: true, D: true, Rsw: 1, Ppn: 0x123456789ab, High: 0x155}, 0x5544_8d15_9e26_ada5},
		{api.Pte{V: true, R: true, W: true, X: true, U: true, G: true, A: true, D: true, Rsw: 3, Ppn: ppnMost, High: 1023}, all},
	} {
		if !pte.May(x.p) {
			t.Errorf("May(%+v): false", x.p)
		}
		if w, e := pte.Put(x.p); w != x.w || e != api.OK {
			t.Errorf("Put(%+v): %#x, %d, not %#x", x.p, w, e, x.w)
		}
		if p := pte.Get(x.w); p != x.p {
			t.Errorf("Get(%#x): %+v, not %+v", x.w, p, x.p)
		}
	}
}

// P6.1: of each bit of a word alone, and of all but it, the one bit or field that has it.
func TestGetOfEachBit(t *testing.T) {
	full := pte.Get(all)
	if full != (api.Pte{V: true, R: true, W: true, X: true, U: true, G: true, A: true, D: true, Rsw: 3, Ppn: ppnMost, High: 1023}) {
		t.Errorf("Get of all bits: %+v", full)
	}
	for i := range 64 {
		want, rest := api.Pte{}, full
		switch {
		case i < 8:
			want, rest = one[i], flags(255-1<<i)
			rest.Rsw, rest.Ppn, rest.High = 3, ppnMost, 1023
		case i < 10:
			want.Rsw = 1 << (i - 8)
			rest.Rsw -= want.Rsw
		case i < 54:
			want.Ppn = 1 << (i - 10)
			rest.Ppn -= want.Ppn
		default:
			want.High = 1 << (i - 54)
			rest.High -= want.High
		}
		if p := pte.Get(1 << i); p != want {
			t.Errorf("Get of the bit %d alone: %+v, not %+v", i, p, want)
		}
		if p := pte.Get(all - 1<<i); p != rest {
			t.Errorf("Get of all bits but %d: %+v, not %+v", i, p, rest)
		}
	}
}

// P6.1: entries that may not be have no word; of each field one more than its bits hold, and any bit beyond them.
func TestMayNotBe(t *testing.T) {
	list := []api.Pte{
		{Rsw: 4},
		{Rsw: 7},
		{Rsw: 256},
		{Rsw: all},
		{Ppn: 1 << 44},
		{Ppn: 1<<44 | 5},
		{Ppn: 1<<45 - 1},
		{Ppn: all},
		{High: 1024},
		{High: 2047},
		{High: all},
		{Rsw: 4, Ppn: ppnMost, High: 1023},
		{Rsw: 3, Ppn: ppnMost + 1, High: 1023},
		{Rsw: 3, Ppn: ppnMost, High: 1024},
		{V: true, R: true, U: true, Ppn: 1<<44 + 5},
		{V: true, R: true, W: true, X: true, U: true, G: true, A: true, D: true, Rsw: 4, Ppn: 1 << 44, High: 1024},
	}
	for i := range 64 {
		if i >= 2 {
			list = append(list, api.Pte{V: true, Rsw: 1 << i}, api.Pte{Rsw: 1<<i | 3})
		}
		if i >= 10 {
			list = append(list, api.Pte{V: true, High: 1 << i}, api.Pte{High: 1<<i | 1023})
		}
		if i >= 44 {
			list = append(list, api.Pte{V: true, Ppn: 1 << i}, api.Pte{Ppn: 1<<i | ppnMost})
		}
	}
	for _, p := range list {
		if pte.May(p) {
			t.Errorf("May(%+v): true", p)
		}
		if w, e := pte.Put(p); w != 0 || e != api.ErrArg {
			t.Errorf("Put(%+v): %#x, %d", p, w, e)
		}
	}
}

// P6.1, P6.3: an entry that may be is read of its word as it was, and one that may not be has none.
func TestPutIsRead(t *testing.T) {
	eachEntry(func(p api.Pte) {
		w, e := pte.Put(p)
		if pte.May(p) != may(p) {
			t.Fatalf("May(%+v): %v", p, pte.May(p))
		}
		if !may(p) {
			if w != 0 || e != api.ErrArg {
				t.Fatalf("Put(%+v): %#x, %d", p, w, e)
			}
			return
		}
		if w != word(p) || e != api.OK {
			t.Fatalf("Put(%+v): %#x, %d, not %#x", p, w, e, word(p))
		}
		if got := pte.Get(w); got != p {
			t.Fatalf("%+v is read of its word as %+v", p, got)
		}
	})
}

// P6.1, P6.3: every word is that of the one entry that may be which is read of it.
func TestGetIsPut(t *testing.T) {
	a := uint64(1)
	for range 20000 {
		// A walk over words that is the same in each run.
		a = a*6364136223846793005 + 1442695040888963407
		for _, w := range []uint64{a ^ a>>29, a &^ (1<<54 - 1), a & 0xff, a >> 10, a << 10} {
			p := pte.Get(w)
			if !pte.May(p) || word(p) != w {
				t.Fatalf("Get(%#x): %+v", w, p)
			}
			if got, e := pte.Put(p); got != w || e != api.OK {
				t.Fatalf("%#x, read and put, is %#x, %d", w, got, e)
			}
		}
	}
}

// P6.2: a leaf by R alone, by X alone, by both; a link by neither; neither, if V isn't set.
func TestLeafLink(t *testing.T) {
	for _, x := range []struct {
		p          api.Pte
		leaf, link bool
	}{
		{api.Pte{}, false, false},
		{api.Pte{V: true}, false, true},
		{api.Pte{V: true, R: true}, true, false},
		{api.Pte{V: true, X: true}, true, false},
		{api.Pte{V: true, R: true, X: true}, true, false},
		{api.Pte{V: true, R: true, W: true}, true, false},
		{api.Pte{V: true, W: true}, false, true},
		{api.Pte{V: true, W: true, X: true}, true, false},
		{api.Pte{V: true, U: true, G: true, A: true, D: true}, false, true},
		{api.Pte{V: true, Rsw: 3, Ppn: ppnMost, High: 1023}, false, true},
		{api.Pte{V: true, R: true, Rsw: 3, Ppn: ppnMost, High: 1023}, true, false},
		// V not set
		{api.Pte{R: true}, false, false},
		{api.Pte{X: true}, false, false},
		{api.Pte{R: true, X: true}, false, false},
		{api.Pte{W: true, U: true, G: true, A: true, D: true, Ppn: 7}, false, false},
		{api.Pte{R: true, W: true, X: true, U: true, G: true, A: true, D: true}, false, false},
		// such as may not be
		{api.Pte{V: true, Ppn: all}, false, true},
		{api.Pte{V: true, X: true, Rsw: all}, true, false},
	} {
		if leaf, link := pte.Leaf(x.p), pte.Link(x.p); leaf != x.leaf || link != x.link {
			t.Errorf("%+v: leaf %v, link %v", x.p, leaf, link)
		}
	}
	for n := range 256 {
		leaf, link := pte.Leaf(flags(n)), pte.Link(flags(n))
		if want := n&1 == 1 && n&10 != 0; leaf != want {
			t.Errorf("Leaf(%+v): %v", flags(n), leaf)
		}
		if want := n&11 == 1; link != want {
			t.Errorf("Link(%+v): %v", flags(n), link)
		}
	}
}

// P6.2: what makes an entry bad, each cause alone, at each level.
func TestBad(t *testing.T) {
	for _, x := range []struct {
		p             api.Pte
		low, mid, top bool
	}{
		// V not set
		{api.Pte{}, true, true, true},
		{api.Pte{R: true}, true, true, true},
		{api.Pte{R: true, W: true, X: true, U: true, A: true, D: true, Ppn: 1 << 18}, true, true, true},
		// W without R
		{api.Pte{V: true, W: true}, true, true, true},
		{api.Pte{V: true, W: true, X: true}, true, true, true},
		{api.Pte{V: true, R: true, W: true}, false, false, false},
		// High isn't 0
		{api.Pte{V: true, High: 1}, true, true, true},
		{api.Pte{V: true, R: true, High: 1}, true, true, true},
		{api.Pte{V: true, R: true, High: 512}, true, true, true},
		{api.Pte{V: true, R: true, High: 1023}, true, true, true},
		{api.Pte{V: true, R: true, High: 1024}, true, true, true},
		{api.Pte{V: true, X: true, High: all}, true, true, true},
		// links
		{api.Pte{V: true}, true, false, false},
		{api.Pte{V: true, G: true}, true, false, false},
		{api.Pte{V: true, Rsw: 3}, true, false, false},
		{api.Pte{V: true, Ppn: 1}, true, false, false},
		{api.Pte{V: true, Ppn: ppnMost}, true, false, false},
		{api.Pte{V: true, A: true}, true, true, true},
		{api.Pte{V: true, D: true}, true, true, true},
		{api.Pte{V: true, U: true}, true, true, true},
		{api.Pte{V: true, A: true, D: true, U: true}, true, true, true},
		// leaves
		{api.Pte{V: true, R: true}, false, false, false},
		{api.Pte{V: true, X: true}, false, false, false},
		{api.Pte{V: true, R: true, W: true, X: true, U: true, G: true, A: true, D: true, Rsw: 3}, false, false, false},
		{api.Pte{V: true, R: true, Ppn: 1}, false, true, true},
		{api.Pte{V: true, R: true, Ppn: 511}, false, true, true},
		{api.Pte{V: true, R: true, Ppn: 512}, false, false, true},
		{api.Pte{V: true, R: true, Ppn: 513}, false, true, true},
		{api.Pte{V: true, X: true, Ppn: 1024}, false, false, true},
		{api.Pte{V: true, X: true, Ppn: 1<<18 - 512}, false, false, true},
		{api.Pte{V: true, X: true, Ppn: 1<<18 - 1}, false, true, true},
		{api.Pte{V: true, X: true, Ppn: 1 << 18}, false, false, false},
		{api.Pte{V: true, X: true, Ppn: 1<<18 + 1}, false, true, true},
		{api.Pte{V: true, R: true, Ppn: 3 << 18}, false, false, false},
		{api.Pte{V: true, R: true, Ppn: ppnMost}, false, true, true},
		{api.Pte{V: true, R: true, Ppn: ppnMost - 511}, false, false, true},
		{api.Pte{V: true, R: true, Ppn: 1<<44 - 1<<18}, false, false, false},
		// such as may not be: neither Rsw nor a great Ppn makes it bad
		{api.Pte{V: true, R: true, Rsw: 4}, false, false, false},
		{api.Pte{V: true, R: true, Ppn: 1 << 44}, false, false, false},
		{api.Pte{V: true, R: true, Ppn: 1<<63 | 512}, false, false, true},
		{api.Pte{V: true, Rsw: all, Ppn: all}, true, false, false},
	} {
		if low, mid, top := pte.Bad(x.p, 0), pte.Bad(x.p, 1), pte.Bad(x.p, 2); low != x.low || mid != x.mid || top != x.top {
			t.Errorf("Bad(%+v): %v, %v, %v", x.p, low, mid, top)
		}
	}
	eachEntry(func(p api.Pte) {
		for _, level := range levels {
			if got := pte.Bad(p, level); got != bad(p, level) {
				t.Fatalf("Bad(%+v, %d): %v", p, level, got)
			}
		}
	})
}

// P6.2: Make of each permission alone, and of all and none, global and not.
func TestMake(t *testing.T) {
	for _, x := range []struct {
		ppn    uint64
		perm   api.Perm
		global bool
		want   api.Pte
	}{
		{0, api.Perm{}, false, api.Pte{V: true}},
		{0, api.Perm{}, true, api.Pte{V: true, G: true}},
		{5, api.Perm{R: true}, false, api.Pte{V: true, R: true, Ppn: 5}},
		{5, api.Perm{R: true}, true, api.Pte{V: true, R: true, G: true, Ppn: 5}},
		{6, api.Perm{W: true}, false, api.Pte{V: true, W: true, Ppn: 6}},
		{6, api.Perm{W: true}, true, api.Pte{V: true, W: true, G: true, Ppn: 6}},
		{7, api.Perm{X: true}, false, api.Pte{V: true, X: true, Ppn: 7}},
		{7, api.Perm{X: true}, true, api.Pte{V: true, X: true, G: true, Ppn: 7}},
		{8, api.Perm{U: true}, false, api.Pte{V: true, U: true, Ppn: 8}},
		{8, api.Perm{U: true}, true, api.Pte{V: true, U: true, G: true, Ppn: 8}},
		{ppnMost, api.Perm{R: true, W: true, X: true, U: true}, true, api.Pte{V: true, R: true, W: true, X: true, U: true, G: true, Ppn: ppnMost}},
		{ppnMost + 1, api.Perm{R: true, X: true}, false, api.Pte{V: true, R: true, X: true, Ppn: ppnMost + 1}},
		{all, api.Perm{}, false, api.Pte{V: true, Ppn: all}},
	} {
		if got := pte.Make(x.ppn, x.perm, x.global); got != x.want {
			t.Errorf("Make(%#x, %+v, %v): %+v, not %+v", x.ppn, x.perm, x.global, got, x.want)
		}
	}
}

// P6.2: the chapter's example.
func TestExample(t *testing.T) {
	if w, e := pte.Put(pte.Make(5, api.Perm{R: true, U: true}, false)); w != 0x1413 || e != api.OK {
		t.Errorf("the frame 5, R and U: %#x, %d", w, e)
	}
}

// P6.2: an entry's permissions, whatever else it has, and those that it is made of.
func TestPerm(t *testing.T) {
	for _, x := range []struct {
		p    api.Pte
		want api.Perm
	}{
		{api.Pte{}, api.Perm{}},
		{api.Pte{R: true}, api.Perm{R: true}},
		{api.Pte{W: true}, api.Perm{W: true}},
		{api.Pte{X: true}, api.Perm{X: true}},
		{api.Pte{U: true}, api.Perm{U: true}},
		{api.Pte{V: true, G: true, A: true, D: true, Rsw: 3, Ppn: ppnMost, High: 1023}, api.Perm{}},
		{api.Pte{V: true, R: true, W: true, X: true, U: true, G: true}, api.Perm{R: true, W: true, X: true, U: true}},
		{api.Pte{Rsw: all, Ppn: all, High: all, W: true}, api.Perm{W: true}},
	} {
		if got := pte.Perm(x.p); got != x.want {
			t.Errorf("Perm(%+v): %+v", x.p, got)
		}
	}
	for n := range 256 {
		p := flags(n)
		perm := pte.Perm(p)
		if perm != (api.Perm{R: p.R, W: p.W, X: p.X, U: p.U}) {
			t.Errorf("Perm(%+v): %+v", p, perm)
		}
		made := pte.Make(9, perm, p.G)
		if pte.Perm(made) != perm || !made.V || made.G != p.G || made.A || made.D || made.Ppn != 9 {
			t.Errorf("made of %+v: %+v", perm, made)
		}
	}
}

// Of levels that are none nothing is promised but that no call panics.
func TestNoPanic(t *testing.T) {
	for _, level := range []int{-1, 3, 4, 64, -64, 1 << 32, math.MaxInt, math.MinInt} {
		for n := range 256 {
			p := flags(n)
			pte.Bad(p, level)
			p.Ppn = all
			pte.Bad(p, level)
		}
	}
}
