package entry_test

import (
	"math"
	"slices"
	"testing"

	"atlas/api"
	"atlas/entry"
	"atlas/mem"
	"atlas/walk"
)

const all = ^uint64(0)

// The most that the fields of an entry that may be can be, without regard to its level.
const (
	vpnMost  = 1<<27 - 1
	ppnMost  = 1<<44 - 1
	asidMost = 1<<16 - 1
)

var levels = []int{api.Small, api.Middle, api.Large}

// pages tells how many pages of 4 KiB a level's size has.
func pages(level int) uint64 {
	return []uint64{1, 512, 262144}[level]
}

// is tells whether a is canonical.
func is(a uint64) bool {
	return a < 1<<38 || a >= 0xffffffc000000000
}

// first tells the first address of the page whose number that is: the upper half of the numbers ends at the end of all addresses.
func first(vpn uint64) uint64 {
	if vpn < 1<<26 {
		return vpn * 4096
	}
	return 0 - (1<<27-vpn)*4096
}

// last tells the last address of a Valid entry's pages.
func last(e api.Entry) uint64 {
	return first(e.Vpn) + pages(e.Level)*4096 - 1
}

// within tells whether a lies from e's first address to its last one.
func within(e api.Entry, a uint64) bool {
	return e.Valid && first(e.Vpn) <= a && a <= last(e)
}

// may tells whether e may be, as the chapter does.
func may(e api.Entry) bool {
	if !e.Valid {
		return e == api.Entry{}
	}
	if e.Level < 0 || e.Level > 2 {
		return false
	}
	n := pages(e.Level)
	return e.Vpn < 1<<27 && e.Ppn < 1<<44 && e.Vpn%n == 0 && e.Ppn%n == 0 && e.Asid < 1<<16
}

// one tells a Valid entry, of no frame and no permission.
func one(level int, vpn uint64) api.Entry {
	return api.Entry{Valid: true, Level: level, Vpn: vpn}
}

// vpns tells the page numbers of a level's pages that are the least, the greatest, beside the gap, and others between.
func vpns(level int) []uint64 {
	l, n, many := []uint64{}, pages(level), (vpnMost+1)/pages(level)
	for _, i := range []uint64{0, 1, 2, 3, many/2 - 2, many/2 - 1, many / 2, many/2 + 1, many - 2, many - 1, many / 3, many / 5 * 4} {
		l = append(l, i*n)
	}
	return l
}

// valid tells Valid entries of all levels and of many pages, which may be.
func valid() []api.Entry {
	l := []api.Entry{}
	for _, level := range levels {
		for _, vpn := range vpns(level) {
			e := one(level, vpn)
			e.Ppn, e.Asid = ppnMost/3/pages(level)*pages(level), vpn%7
			l = append(l, e)
		}
	}
	return l
}

// addresses tells the first and the last address of each entry's pages, those just beside, and all of these with other bits above the bit 38.
func addresses() []uint64 {
	l := []uint64{0, 1, all, all - 1, 0x3fffffffff, 0x4000000000, 0xffffffbfffffffff, 0xffffffc000000000, 1 << 63, 1<<63 - 1}
	for _, e := range valid() {
		for _, a := range []uint64{first(e.Vpn), first(e.Vpn) + 1, first(e.Vpn) - 1, last(e) - 1, last(e), last(e) + 1, first(e.Vpn) + 0xabc} {
			l = append(l, a, a^1<<38, a^1<<39, a^1<<63, a^0xffffff8000000000, a^0x5555550000000000)
		}
	}
	slices.Sort(l)
	return slices.Compact(l)
}

// canonical tells those of the addresses that are.
func canonical() []uint64 {
	return slices.DeleteFunc(addresses(), func(a uint64) bool { return !is(a) })
}

// P12.1: the entries of some leaves, each written out.
func TestOf(t *testing.T) {
	rwxu := api.Perm{R: true, W: true, X: true, U: true}
	for i, x := range []struct {
		l          api.Leaf
		addr, asid uint64
		want       api.Entry
	}{
		{api.Leaf{Pte: api.Pte{V: true, R: true}}, 0, 0, api.Entry{Valid: true, Perm: api.Perm{R: true}}},
		{api.Leaf{Pte: api.Pte{V: true, R: true, W: true, A: true, D: true, Ppn: 77}, At: 0x3028}, 0x5abc, 1, api.Entry{Valid: true, Asid: 1, Vpn: 5, Ppn: 77, Perm: api.Perm{R: true, W: true}, Dirty: true}},
		{api.Leaf{Pte: api.Pte{V: true, X: true, G: true, A: true, Rsw: 3, Ppn: ppnMost}, At: all}, all, asidMost, api.Entry{Valid: true, Asid: asidMost, Global: true, Vpn: vpnMost, Ppn: ppnMost, Perm: api.Perm{X: true}}},
		{api.Leaf{Level: 1, Pte: api.Pte{V: true, R: true, U: true, Ppn: 512}}, 0x200000, 7, api.Entry{Valid: true, Asid: 7, Level: 1, Vpn: 512, Ppn: 512, Perm: api.Perm{R: true, U: true}}},
		{api.Leaf{Level: 1, Pte: api.Pte{V: true, R: true, U: true, D: true, Ppn: 1024}}, 0x3fffff, 7, api.Entry{Valid: true, Asid: 7, Level: 1, Vpn: 512, Ppn: 1024, Perm: api.Perm{R: true, U: true}, Dirty: true}},
		{api.Leaf{Level: 1, Pte: api.Pte{V: true, R: true}}, 0x1fffff, 7, api.Entry{Valid: true, Asid: 7, Level: 1, Perm: api.Perm{R: true}}},
		{api.Leaf{Level: 1, Pte: api.Pte{V: true, R: true}}, 0x3fffffffff, 7, api.Entry{Valid: true, Asid: 7, Level: 1, Vpn: 1<<26 - 512, Perm: api.Perm{R: true}}},
		{api.Leaf{Level: 2, Pte: api.Pte{V: true, R: true, W: true, X: true, U: true, G: true, A: true, D: true, Ppn: 3 << 18}}, 0x7fffffff, 9, api.Entry{Valid: true, Asid: 9, Global: true, Level: 2, Vpn: 1 << 18, Ppn: 3 << 18, Perm: rwxu, Dirty: true}},
		{api.Leaf{Level: 2, Pte: api.Pte{V: true, X: true, Ppn: ppnMost + 1 - 1<<18}}, 0xffffffc000000000, 9, api.Entry{Valid: true, Asid: 9, Level: 2, Vpn: 1 << 26, Ppn: ppnMost + 1 - 1<<18, Perm: api.Perm{X: true}}},
		{api.Leaf{Level: 2, Pte: api.Pte{V: true, X: true}}, all, 9, api.Entry{Valid: true, Asid: 9, Level: 2, Vpn: vpnMost + 1 - 1<<18, Perm: api.Perm{X: true}}},
	} {
		if got := entry.Of(x.l, x.addr, x.asid); got != x.want {
			t.Errorf("%d: Of(%+v, %#x, %d): %+v, not %+v", i, x.l, x.addr, x.asid, got, x.want)
		}
	}
}

// P12.1: each bit of a leaf goes to its own field, and A, Rsw and where the leaf is to none; asked twice, for nothing is kept.
func TestOfBits(t *testing.T) {
	for n := range 256 {
		on := func(i int) bool { return n>>i%2 == 1 }
		p := api.Pte{V: true, R: on(0), W: on(1), X: on(2), U: on(3), G: on(4), A: on(5), D: on(6), Ppn: 5 << 18}
		if on(7) {
			p.Rsw = 2
		}
		want := api.Entry{Valid: true, Asid: 4, Global: on(4), Level: n % 3, Vpn: 7 << 18, Ppn: 5 << 18, Perm: api.Perm{R: on(0), W: on(1), X: on(2), U: on(3)}, Dirty: on(6)}
		l := api.Leaf{Level: n % 3, At: uint64(n) * 8, Pte: p}
		for range 2 {
			if got := entry.Of(l, 7<<30+uint64(n), 4); got != want {
				t.Errorf("Of(%+v): %+v, not %+v", l, got, want)
			}
		}
	}
}

// P12.1: the entry of a leaf at each address, and of each number: its Vpn is that of the page in which the address lies.
func TestOfVpn(t *testing.T) {
	for _, level := range levels {
		for i, a := range canonical() {
			asid := []uint64{0, 1, 15, 255, 256, 32768, asidMost}[i%7]
			l := api.Leaf{Level: level, Pte: api.Pte{V: true, R: true, Ppn: pages(level)}}
			want := api.Entry{Valid: true, Asid: asid, Level: level, Vpn: a / 4096 % (1 << 27) / pages(level) * pages(level), Ppn: pages(level), Perm: api.Perm{R: true}}
			if got := entry.Of(l, a, asid); got != want {
				t.Fatalf("at %#x, of the level %d: %+v, not %+v", a, level, got, want)
			}
		}
	}
}

// P12.1: of entries that aren't Valid the zero one alone may be.
func TestMayNotValid(t *testing.T) {
	if !entry.May(api.Entry{}) {
		t.Error("the zero entry may be")
	}
	for i, e := range []api.Entry{
		{Asid: 1}, {Asid: 1 << 16}, {Global: true}, {Level: 1}, {Level: 2}, {Level: 3}, {Level: -1}, {Vpn: 1}, {Vpn: 512, Level: 1}, {Vpn: 1 << 27}, {Ppn: 1}, {Ppn: 1 << 44},
		{Perm: api.Perm{R: true}}, {Perm: api.Perm{W: true}}, {Perm: api.Perm{X: true}}, {Perm: api.Perm{U: true}}, {Dirty: true},
	} {
		if entry.May(e) {
			t.Errorf("%d: %+v isn't Valid and isn't zero", i, e)
		}
	}
}

// P12.1: of Valid entries the least and the greatest fields that may be, and the first that may not; numbers that aren't multiples.
func TestMay(t *testing.T) {
	for _, x := range []struct {
		level    int
		vpn, ppn uint64
		asid     uint64
		want     bool
		what     string
	}{
		{0, 0, 0, 0, true, "the least"},
		{1, 0, 0, 0, true, "the least"},
		{2, 0, 0, 0, true, "the least"},
		{0, 1, 1, 1, true, "each is a multiple"},
		{0, vpnMost, ppnMost, asidMost, true, "the greatest"},
		{1, vpnMost - 511, ppnMost - 511, asidMost, true, "the greatest"},
		{2, vpnMost + 1 - 1<<18, ppnMost + 1 - 1<<18, asidMost, true, "the greatest"},
		{1, 512, 1024, 3, true, "multiples"},
		{2, 1 << 18, 3 << 18, 3, true, "multiples"},

		{0, vpnMost + 1, 0, 0, false, "Vpn"},
		{1, vpnMost + 1, 0, 0, false, "Vpn"},
		{2, vpnMost + 1, 0, 0, false, "Vpn"},
		{0, 1<<28 | 5, 0, 0, false, "Vpn"},
		{2, 1 << 63, 0, 0, false, "Vpn"},
		{0, all, 0, 0, false, "Vpn"},
		{0, 0, ppnMost + 1, 0, false, "Ppn"},
		{1, 0, ppnMost + 1, 0, false, "Ppn"},
		{2, 0, ppnMost + 1, 0, false, "Ppn"},
		{0, 0, 1 << 52, 0, false, "Ppn"},
		{1, 0, 1<<45 | 512, 0, false, "Ppn"},
		{2, 0, 1 << 63, 0, false, "Ppn"},
		{0, 0, all, 0, false, "Ppn"},
		{0, 0, 0, asidMost + 1, false, "Asid"},
		{1, 0, 0, asidMost + 1, false, "Asid"},
		{2, 0, 0, asidMost + 1, false, "Asid"},
		{0, 0, 0, 1<<17 | 1, false, "Asid"},
		{0, 0, 0, all, false, "Asid"},

		{1, 1, 0, 0, false, "Vpn no multiple"},
		{1, 256, 0, 0, false, "Vpn no multiple"},
		{1, 511, 0, 0, false, "Vpn no multiple"},
		{1, 513, 0, 0, false, "Vpn no multiple"},
		{1, vpnMost, 0, 0, false, "Vpn no multiple"},
		{2, 1, 0, 0, false, "Vpn no multiple"},
		{2, 512, 0, 0, false, "Vpn a multiple of 512 alone"},
		{2, 1 << 17, 0, 0, false, "Vpn no multiple"},
		{2, 1<<18 + 1, 0, 0, false, "Vpn no multiple"},
		{2, vpnMost - 511, 0, 0, false, "Vpn a multiple of 512 alone"},
		{1, 0, 1, 0, false, "Ppn no multiple"},
		{1, 0, 256, 0, false, "Ppn no multiple"},
		{1, 0, 511, 0, false, "Ppn no multiple"},
		{1, 0, 513, 0, false, "Ppn no multiple"},
		{1, 0, ppnMost, 0, false, "Ppn no multiple"},
		{2, 0, 1, 0, false, "Ppn no multiple"},
		{2, 0, 512, 0, false, "Ppn a multiple of 512 alone"},
		{2, 0, 1 << 17, 0, false, "Ppn no multiple"},
		{2, 0, 1<<18 - 1, 0, false, "Ppn no multiple"},
		{2, 0, ppnMost - 511, 0, false, "Ppn a multiple of 512 alone"},

		{-1, 0, 0, 0, false, "Level"},
		{3, 0, 0, 0, false, "Level"},
		{4, 0, 0, 0, false, "Level"},
		{1 << 32, 0, 0, 0, false, "Level"},
		{math.MinInt, 0, 0, 0, false, "Level"},
		{math.MaxInt, 0, 0, 0, false, "Level"},
	} {
		// Neither Global, nor permissions, nor Dirty have a part in it, not even permissions that no page has.
		for n := range 64 {
			on := func(i int) bool { return n>>i%2 == 1 }
			e := api.Entry{Valid: true, Asid: x.asid, Global: on(0), Level: x.level, Vpn: x.vpn, Ppn: x.ppn, Perm: api.Perm{R: on(1), W: on(2), X: on(3), U: on(4)}, Dirty: on(5)}
			if got := entry.May(e); got != x.want {
				t.Errorf("%s: May(%+v): %v", x.what, e, got)
			}
		}
	}
}

// P12.1: May where each field is one of many, held against the chapter's telling.
func TestMayEverywhere(t *testing.T) {
	numbers := []uint64{0, 1, 2, 255, 256, 257, 511, 512, 513, 1024}
	for i := 10; i < 64; i++ {
		numbers = append(numbers, 1<<i-512, 1<<i-1, 1<<i, 1<<i+1, 1<<i+512, all<<i)
	}
	for level := -2; level <= 5; level++ {
		for i, vpn := range numbers {
			for j, ppn := range numbers {
				e := api.Entry{Valid: true, Level: level, Vpn: vpn, Ppn: ppn, Asid: numbers[(i+j)%10]}
				if got := entry.May(e); got != may(e) {
					t.Fatalf("May(%+v): %v", e, got)
				}
				e.Valid = false
				if got := entry.May(e); got != may(e) {
					t.Fatalf("May(%+v): %v", e, got)
				}
			}
			e := api.Entry{Valid: true, Level: level, Asid: vpn}
			if got := entry.May(e); got != may(e) {
				t.Fatalf("May(%+v): %v", e, got)
			}
		}
	}
}

// P12.1: the chapter's example, and the first and the last address of pages, and those just beside.
func TestCovers(t *testing.T) {
	for _, x := range []struct {
		level       int
		vpn         uint64
		first, last uint64
	}{
		{1, 512, 0x200000, 0x3fffff},
		{0, 0, 0, 0xfff},
		{1, 0, 0, 0x1fffff},
		{2, 0, 0, 0x3fffffff},
		{0, 5, 0x5000, 0x5fff},
		{2, 1 << 18, 0x40000000, 0x7fffffff},
		// on both sides of the gap
		{0, 1<<26 - 1, 0x3ffffff000, 0x3fffffffff},
		{1, 1<<26 - 512, 0x3fffe00000, 0x3fffffffff},
		{2, 1<<26 - 1<<18, 0x3fc0000000, 0x3fffffffff},
		{0, 1 << 26, 0xffffffc000000000, 0xffffffc000000fff},
		{1, 1 << 26, 0xffffffc000000000, 0xffffffc0001fffff},
		{2, 1 << 26, 0xffffffc000000000, 0xffffffc03fffffff},
		// at the end of all addresses
		{0, vpnMost, 0xfffffffffffff000, all},
		{1, vpnMost - 511, 0xffffffffffe00000, all},
		{2, vpnMost + 1 - 1<<18, 0xffffffffc0000000, all},
	} {
		e := one(x.level, x.vpn)
		for _, a := range []uint64{x.first, x.first + 1, x.first + 0xabc, x.last - 0x123, x.last} {
			if !entry.Covers(e, a) {
				t.Errorf("Covers(%+v, %#x): false", e, a)
			}
		}
		for _, a := range []uint64{x.first - 1, x.first - 4096, x.last + 1, x.last + 4096} {
			if entry.Covers(e, a) {
				t.Errorf("Covers(%+v, %#x): true", e, a)
			}
		}
	}
}

// P12.1: an address that isn't canonical is covered by none, though its page number be the entry's.
func TestCoversNotCanonical(t *testing.T) {
	for _, e := range valid() {
		for _, a := range []uint64{first(e.Vpn), last(e)} {
			for i := 38; i < 64; i++ {
				if b := a ^ 1<<i; entry.Covers(e, b) || entry.Matches(e, e.Asid, b) {
					t.Errorf("%+v covers %#x", e, b)
				}
			}
			if b := a ^ 0xffffff8000000000; entry.Covers(e, b) || entry.Matches(e, e.Asid, b) {
				t.Errorf("%+v covers %#x", e, b)
			}
		}
	}
}

// P12.1: all entries and all addresses, held against first and last addresses; what else the entry has counts for nothing.
func TestCoversEverywhere(t *testing.T) {
	for _, e := range valid() {
		other := e
		other.Global, other.Asid, other.Ppn, other.Dirty, other.Perm = true, asidMost, 0, true, api.Perm{R: true, W: true, X: true, U: true}
		for _, a := range addresses() {
			want := is(a) && within(e, a)
			if entry.Covers(e, a) != want || entry.Covers(other, a) != want {
				t.Fatalf("Covers(%+v, %#x): %v, %v, not %v", e, a, entry.Covers(e, a), entry.Covers(other, a), want)
			}
		}
	}
}

// P12.1: the zero entry covers nothing, matches nothing, for no number.
func TestZero(t *testing.T) {
	for _, a := range append(addresses(), 0, 5, 4095) {
		if entry.Covers(api.Entry{}, a) {
			t.Errorf("the zero entry covers %#x", a)
		}
		for _, asid := range []uint64{0, 1, asidMost} {
			if entry.Matches(api.Entry{}, asid, a) {
				t.Errorf("the zero entry matches %#x for %d", a, asid)
			}
		}
	}
}

// P12.1: to match is to cover, for the entry's number, or for any, if it is Global.
func TestMatches(t *testing.T) {
	for _, x := range []struct {
		asid   uint64
		global bool
		number uint64
		want   bool
	}{
		{9, false, 9, true},
		{9, false, 8, false},
		{9, false, 0, false},
		{0, false, 0, true},
		{0, false, 1, false},
		{asidMost, false, asidMost, true},
		{asidMost, false, asidMost - 1, false},
		{1, false, 1<<16 + 1, false},
		{1, false, all, false},
		{9, true, 9, true},
		{9, true, 8, true},
		{9, true, 0, true},
		{0, true, asidMost, true},
		{0, true, all, true},
	} {
		for _, e := range valid() {
			e.Asid, e.Global = x.asid, x.global
			for _, a := range []uint64{first(e.Vpn), last(e)} {
				if got := entry.Matches(e, x.number, a); got != x.want {
					t.Errorf("Matches(%+v, %d, %#x): %v", e, x.number, a, got)
				}
			}
			for _, a := range []uint64{first(e.Vpn) - 1, last(e) + 1} {
				if entry.Matches(e, x.number, a) {
					t.Errorf("Matches(%+v, %d, %#x), which it doesn't cover", e, x.number, a)
				}
			}
		}
	}
}

// P12.1: all entries and all addresses, for the entry's number and for others, global and not.
func TestMatchesEverywhere(t *testing.T) {
	for _, e := range valid() {
		for _, e.Global = range []bool{false, true} {
			for _, a := range addresses() {
				covers := is(a) && within(e, a)
				for asid := range uint64(8) {
					if got := entry.Matches(e, asid, a); got != (covers && (e.Global || asid == e.Asid)) {
						t.Fatalf("Matches(%+v, %d, %#x): %v", e, asid, a, got)
					}
				}
			}
		}
	}
}

// P12.1: where an entry leads at each level, at the page's ends and between, to the nearest frames and the farthest.
func TestPhysical(t *testing.T) {
	for _, x := range []struct {
		level    int
		vpn, ppn uint64
		a, want  uint64
	}{
		{0, 5, 77, 0x5000, 77 * 4096},
		{0, 5, 77, 0x5abc, 77*4096 + 0xabc},
		{0, 5, 77, 0x5fff, 78*4096 - 1},
		{0, 5, 0, 0x5fff, 0xfff},
		{0, vpnMost, ppnMost, all, 1<<56 - 1},
		{0, 1 << 26, 1, 0xffffffc000000007, 4096 + 7},
		{1, 512, 1024, 0x200000, 0x400000},
		{1, 512, 1024, 0x2abcde, 0x4abcde},
		{1, 512, 1024, 0x3fffff, 0x5fffff},
		{1, 512, 0, 0x3fffff, 0x1fffff},
		{1, vpnMost - 511, ppnMost - 511, all, 1<<56 - 1},
		{2, 1 << 18, 3 << 18, 0x40000000, 3 << 30},
		{2, 1 << 18, 3 << 18, 0x6bcdef12, 3<<30 + 0x2bcdef12},
		{2, 1 << 18, 3 << 18, 0x7fffffff, 4<<30 - 1},
		{2, 1 << 18, 0, 0x7fffffff, 1<<30 - 1},
		{2, vpnMost + 1 - 1<<18, ppnMost + 1 - 1<<18, all, 1<<56 - 1},
	} {
		e := one(x.level, x.vpn)
		e.Ppn = x.ppn
		if got := entry.Physical(e, x.a); !entry.Covers(e, x.a) || got != x.want {
			t.Errorf("Physical(%+v, %#x): %#x, not %#x", e, x.a, got, x.want)
		}
	}
	for _, e := range valid() {
		for _, a := range canonical() {
			if within(e, a) && entry.Physical(e, a) != e.Ppn*4096+a-first(e.Vpn) {
				t.Fatalf("Physical(%+v, %#x): %#x", e, a, entry.Physical(e, a))
			}
		}
	}
}

// P12.2: entries of one level, a greater one and a lesser one within it and beside it, either way round, and such as aren't Valid.
func TestOver(t *testing.T) {
	zero := api.Entry{}
	for i, x := range []struct {
		e, f api.Entry
		want bool
	}{
		{one(0, 5), one(0, 5), true},
		{one(0, 5), one(0, 6), false},
		{one(0, 0), one(0, 0), true},
		{one(0, 0), one(0, vpnMost), false},
		{one(1, 512), one(1, 512), true},
		{one(1, 512), one(1, 0), false},
		{one(1, 512), one(1, 1024), false},
		{one(2, 1<<18), one(2, 1<<18), true},
		{one(2, 1<<18), one(2, 0), false},
		{one(2, 0), one(2, vpnMost+1-1<<18), false},
		// a middle one, and small ones within and beside
		{one(1, 512), one(0, 511), false},
		{one(1, 512), one(0, 512), true},
		{one(1, 512), one(0, 700), true},
		{one(1, 512), one(0, 1023), true},
		{one(1, 512), one(0, 1024), false},
		{one(1, 0), one(0, 0), true},
		{one(1, 0), one(0, 511), true},
		{one(1, 0), one(0, 512), false},
		{one(1, vpnMost-511), one(0, vpnMost), true},
		{one(1, vpnMost-511), one(0, vpnMost-512), false},
		// a large one, and small ones
		{one(2, 1<<18), one(0, 1<<18-1), false},
		{one(2, 1<<18), one(0, 1<<18), true},
		{one(2, 1<<18), one(0, 2<<18-1), true},
		{one(2, 1<<18), one(0, 2<<18), false},
		// a large one, and middle ones
		{one(2, 0), one(1, 0), true},
		{one(2, 0), one(1, 1<<18-512), true},
		{one(2, 0), one(1, 1<<18), false},
		{one(2, 1<<18), one(1, 1<<18-512), false},
		{one(2, vpnMost+1-1<<18), one(1, vpnMost-511), true},
		// on both sides of the gap
		{one(2, 1<<26), one(1, 1<<26), true},
		{one(2, 1<<26), one(0, 1<<26-1), false},
		{one(2, 1<<26-1<<18), one(0, 1<<26-1), true},
		{one(2, 1<<26-1<<18), one(1, 1<<26), false},
		// the zero entry, which covers nothing, though its page number be that of the first page
		{zero, one(0, 0), false},
		{zero, one(1, 0), false},
		{zero, one(2, 0), false},
		{zero, one(0, 5), false},
		{zero, zero, false},
		{api.Entry{Vpn: 5}, one(0, 5), false},
		{api.Entry{Level: 1, Vpn: 512}, one(0, 600), false},
		{api.Entry{Vpn: 600}, one(1, 512), false},
		{api.Entry{Vpn: 5}, api.Entry{Vpn: 5}, false},
	} {
		if entry.Over(x.e, x.f) != x.want || entry.Over(x.f, x.e) != x.want {
			t.Errorf("%d: Over(%+v, %+v): %v, and the other way round %v", i, x.e, x.f, entry.Over(x.e, x.f), entry.Over(x.f, x.e))
		}
	}
}

// P12.2: all entries, and those of pages around their ends: over just if one's first address lies within the other one; numbers and whatever else they have count for nothing.
func TestOverEverywhere(t *testing.T) {
	l := append(valid(), api.Entry{})
	for _, e := range valid() {
		for _, level := range levels {
			for _, a := range []uint64{first(e.Vpn) - 1, first(e.Vpn), last(e), last(e) + 1} {
				f := one(level, a/4096%(1<<27)/pages(level)*pages(level))
				f.Global, f.Asid = level == 1, 8
				l = append(l, f)
			}
		}
	}
	for _, e := range l {
		for _, f := range l {
			want := e.Valid && f.Valid && (within(e, first(f.Vpn)) || within(f, first(e.Vpn)))
			if got := entry.Over(e, f); got != want {
				t.Fatalf("Over(%+v, %+v): %v", e, f, got)
			}
		}
	}
}

// P12.2: where two are over, there is a canonical address that both cover, and else there is none among many.
func TestOverAddress(t *testing.T) {
	l := canonical()
	for _, e := range valid() {
		for _, f := range valid() {
			both := slices.ContainsFunc(l, func(a uint64) bool { return entry.Covers(e, a) && entry.Covers(f, a) })
			if got := entry.Over(e, f); got != both {
				t.Fatalf("Over(%+v, %+v): %v", e, f, got)
			}
		}
	}
}

// P12.3: the entry of a leaf may be, matches each address of the leaf's page, and leads it where the leaf does, at each level.
func TestLeads(t *testing.T) {
	for _, level := range levels {
		n := pages(level)
		for _, vpn := range vpns(level) {
			for _, ppn := range []uint64{0, n, 5 * n, ppnMost/3/n*n - n, ppnMost + 1 - n} {
				l := api.Leaf{Level: level, At: 0x1008, Pte: api.Pte{V: true, R: true, A: true, Ppn: ppn}}
				from, to := first(vpn), first(vpn)+n*4096-1
				inside := []uint64{from, from + 1, from + n*4096/2 - 1, from + n*4096/2, from + n*4096/3, to - 1, to}
				for _, a := range inside {
					e := entry.Of(l, a, 3)
					if !entry.May(e) {
						t.Fatalf("%+v, of a leaf, may not be", e)
					}
					for _, b := range inside {
						if !entry.Covers(e, b) || !entry.Matches(e, 3, b) || entry.Matches(e, 2, b) || entry.Physical(e, b) != walk.Physical(l, b) {
							t.Fatalf("%+v, brought in at %#x, leads %#x to %#x, the leaf to %#x", e, a, b, entry.Physical(e, b), walk.Physical(l, b))
						}
					}
					if entry.Covers(e, from-1) || entry.Covers(e, to+1) {
						t.Fatalf("%+v covers what isn't of the leaf's page", e)
					}
				}
			}
		}
	}
}

// laid tells a memory of three tables, in the frames 0 to 2, with links from the entries 1 and 511 down to leaves of all levels; of the entry 511 the link has G.
func laid(t *testing.T) api.Mem {
	t.Helper()
	m, e := mem.New(3 * 4096)
	for _, x := range []struct{ at, word uint64 }{
		{8 * 1, 1<<10 | 0x01},              // from the root, a link
		{8 * 2, 6<<28 | 0xc7},              // a page of 1 GiB: R, W, A, D
		{8 * 256, 1<<28 | 0x59},            // one in the upper half: X, U, A
		{8 * 511, 1<<10 | 0x21},            // a link with G
		{4096 + 8*1, 2<<10 | 0x01},         // from the middle table, a link
		{4096 + 8*2, 3<<19 | 0x53},         // a page of 2 MiB: R, U, A
		{4096 + 8*511, 9<<19 | 0xc7},       // another one: R, W, A, D
		{8192 + 8*1, 77<<10 | 0x43},        // a page of 4 KiB: R, A
		{8192 + 8*511, ppnMost<<10 | 0xd7}, // the farthest one: R, W, U, A, D
	} {
		if e == api.OK {
			m, e = mem.Store(m, x.at, 8, x.word)
		}
	}
	if e != api.OK {
		t.Fatalf("no memory: %d", e)
	}
	return m
}

// P12.3: leaves that a walk told: wherever their entries match, a walk ends at that leaf, and where it leads, the entry does.
func TestLeadsAsWalked(t *testing.T) {
	m := laid(t)
	told := map[int]int{}
	for _, high := range []uint64{0x40000000, 0x80000000, 0xffffffc000000000, 0xffffffffc0000000} {
		for _, low := range []uint64{0x201000, 0x201fff, 0x3ff000, 0x3fffff, 0x400000, 0x5fffff, 0x3fe00000, 0x3fffffff} {
			a := high + low
			l, f := walk.Look(m, 0, a, api.Load)
			if f.Is {
				t.Fatalf("nothing at %#x: %+v", a, f)
			}
			told[l.Level]++
			e := entry.Of(l, a, 5)
			if !entry.May(e) || !entry.Matches(e, 5, a) || entry.Physical(e, a) != walk.Physical(l, a) {
				t.Errorf("%+v leads %#x to %#x, the leaf to %#x", e, a, entry.Physical(e, a), walk.Physical(l, a))
			}
			if global := a >= 0xffffffffc0000000; e.Global != global || entry.Matches(e, 6, a) != global {
				t.Errorf("%+v, global or not, at %#x", e, a)
			}
			for _, b := range []uint64{first(e.Vpn), first(e.Vpn) + 0x123, last(e)} {
				k, f := walk.Look(m, 0, b, api.Load)
				if f.Is || k != l || !entry.Covers(e, b) || entry.Physical(e, b) != walk.Physical(k, b) {
					t.Errorf("%+v leads %#x to %#x, the leaf %+v to %#x", e, b, entry.Physical(e, b), k, walk.Physical(k, b))
				}
			}
		}
	}
	for _, level := range levels {
		if told[level] == 0 {
			t.Errorf("no leaf of the level %d", level)
		}
	}
}

// Of entries that may not be, and leaves of levels that are none, nothing is promised but that no call panics.
func TestNoPanic(t *testing.T) {
	for _, level := range []int{-1, 3, 4, 6, 64, -64, 1 << 32, math.MaxInt, math.MinInt} {
		for _, n := range []uint64{0, 1, 513, 1 << 27, 1 << 38, 1 << 44, 1 << 63, all} {
			for _, valid := range []bool{false, true} {
				e := api.Entry{Valid: valid, Level: level, Vpn: n, Ppn: n, Asid: n}
				for _, f := range []api.Entry{e, one(0, 0), one(2, 1<<18), {}} {
					entry.Over(e, f)
					entry.Over(f, e)
				}
				entry.May(e)
				for _, a := range []uint64{0, n, 1 << 38, all} {
					entry.Of(api.Leaf{Level: level, At: n, Pte: api.Pte{Ppn: n, Rsw: n, High: n}}, a, n)
					entry.Covers(e, a)
					entry.Matches(e, n, a)
					entry.Physical(e, a)
				}
			}
		}
	}
}
