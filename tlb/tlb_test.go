package tlb_test

import (
	"math"
	"slices"
	"testing"

	"atlas/api"
	"atlas/plru"
	"atlas/set"
	"atlas/tlb"
)

const (
	all  = ^uint64(0)
	ways = 4
	// wide is how many addresses are canonical.
	wide = 1 << 39
)

// sizes are the bytes of a page, by the levels.
var sizes = [3]uint64{0x1000, 0x200000, 0x40000000}

// addresses are canonical ones: the ends of both halves, and of pages of each level.
var addresses = []uint64{
	0, 1, 0xfff, 0x1000, 0x3000, 0x5fff, 0x6000, 0x1fffff, 0x200000, 0x200fff, 0x201000, 0x3fffff, 0x400000, 0xabcdef123,
	0x3fffffff, 0x40000000, 0x40001000, 0x40200000, 0x7fffffff, 0x80000000, 0xc0000000, 0x3fc0000000, 0x3fffffffff,
	0xffffffc000000000, 0xffffffc000001000, 0xffffffc000200000, 0xffffffc040000000, 0xfffffffff0123456, 0xffffffffffe00000, 0xfffffffffffff000, all,
}

// at tells the entry of the page of the level in which the address lies, of a number, that isn't global.
func at(level int, addr, asid uint64) api.Entry {
	vpn := addr % wide / sizes[level] * (sizes[level] / 4096)
	return api.Entry{Valid: true, Asid: asid, Level: level, Vpn: vpn, Ppn: 3 << 18, Perm: api.Perm{R: true}}
}

// global tells the entry that at tells, but global.
func global(level int, addr, asid uint64) api.Entry {
	e := at(level, addr, asid)
	e.Global = true
	return e
}

// first tells the first address of the page of an entry.
func first(e api.Entry) uint64 {
	if a := e.Vpn * 4096; a < wide/2 {
		return a
	}
	return e.Vpn*4096 - wide
}

// home tells the place of an entry's set.
func home(e api.Entry, sets int) int {
	return int(first(e) % wide / sizes[e.Level] % uint64(sets))
}

// pages tells the entries, of the numbers 1 and 2 and global ones of 3, of all pages of each level in which one of the addresses lies.
func pages() []api.Entry {
	var l []api.Entry
	for level := range 3 {
		for _, a := range addresses {
			for _, e := range []api.Entry{at(level, a, 1), at(level, a, 2), global(level, a, 3)} {
				if !slices.Contains(l, e) {
					l = append(l, e)
				}
			}
		}
	}
	return l
}

// place tells where an entry stands.
type place struct {
	set, way int
	e        api.Entry
}

// laid tells the buffer of that many sets, whose ways are as the places tell, and whose trees are 0, 1 and so on; a room of one set lies behind its list.
func laid(sets int, l ...place) api.Tlb {
	t := api.Tlb{Sets: make([]api.Set, sets, sets+1)}
	for i := range t.Sets {
		t.Sets[i].Tree = uint8(i % 8)
	}
	t.Sets[:sets+1][sets].Tree = 77
	for _, p := range l {
		t.Sets[p.set].Ways[p.way] = p.e
	}
	return t
}

// copied tells a buffer of the same sets, in new memory.
func copied(t api.Tlb) api.Tlb {
	return api.Tlb{Sets: append([]api.Set{}, t.Sets...)}
}

// like tells whether two buffers have the same sets.
func like(t, u api.Tlb) bool {
	return slices.Equal(t.Sets, u.Sets)
}

// full tells the buffer of that many sets whose ways are all of pages of their sets, of levels in turn.
func full(sets int) api.Tlb {
	t := laid(sets)
	for i := range t.Sets {
		for way := range ways {
			level := (i + way) % 3
			t.Sets[i].Ways[way] = at(level, uint64(i+way*sets)*sizes[level], uint64(way))
		}
	}
	return t
}

// P14.1: buffers of 0 to 16 sets are new, each set of them empty; of no other number.
func TestNew(t *testing.T) {
	for n := -40; n <= 40; n++ {
		b, e := tlb.New(n)
		if n < 0 || n > 16 {
			if e != api.ErrArg || len(b.Sets) != 0 {
				t.Errorf("New(%d): %+v, %d", n, b, e)
			}
			continue
		}
		if e != api.OK || len(b.Sets) != n || !tlb.Right(b) || len(tlb.All(b)) != 0 {
			t.Errorf("New(%d): %+v, %d", n, b, e)
		}
		for i, s := range b.Sets {
			if s != (api.Set{}) {
				t.Errorf("New(%d): the set %d is %+v", n, i, s)
			}
		}
	}
	for _, n := range []int{math.MinInt, math.MinInt + 1, -1 << 32, 1 << 32, 1<<32 + 1, 1 << 62, math.MaxInt} {
		if b, e := tlb.New(n); e != api.ErrArg || len(b.Sets) != 0 {
			t.Errorf("New(%d): %d sets, %d", n, len(b.Sets), e)
		}
	}
}

// P14.5: a new buffer shares nothing with the one ahead.
func TestNewApart(t *testing.T) {
	b, _ := tlb.New(16)
	for i := range b.Sets {
		b.Sets[i] = api.Set{Tree: 7}
	}
	c, _ := tlb.New(16)
	if !like(c, api.Tlb{Sets: make([]api.Set, 16)}) {
		t.Errorf("New(16) shares with another one: %+v", c)
	}
}

// P14.1: of 0 to 16 sets a buffer is right, empty or full, of more it isn't.
func TestRightSets(t *testing.T) {
	if !tlb.Right(api.Tlb{}) || !tlb.Right(api.Tlb{Sets: []api.Set{}}) {
		t.Error("a buffer of no sets isn't right")
	}
	for _, n := range []int{0, 1, 2, 3, 7, 8, 15, 16, 17, 18, 31, 32, 33, 64, 256, 272, 4096} {
		for _, b := range []api.Tlb{{Sets: make([]api.Set, n)}, laid(n), full(n)} {
			if tlb.Right(b) != (n <= 16) {
				t.Errorf("Right of %d sets: %v", n, tlb.Right(b))
			}
		}
	}
}

// P14.1: one set that isn't right, by its tree or an entry that may not be, at each place: the buffer isn't.
func TestRightOne(t *testing.T) {
	wrong := []api.Entry{
		{Asid: 1}, {Global: true}, {Level: 1}, {Level: -1}, {Vpn: 1}, {Ppn: 1}, {Dirty: true}, {Perm: api.Perm{U: true}},
		{Valid: true, Level: -1}, {Valid: true, Level: 3}, {Valid: true, Level: math.MaxInt}, {Valid: true, Level: math.MinInt}, {Valid: true, Asid: 1 << 16},
		{Valid: true, Vpn: 1 << 27}, {Valid: true, Vpn: 3 << 30}, {Valid: true, Ppn: 1 << 44}, {Valid: true, Level: 1, Ppn: 1}, {Valid: true, Level: 2, Ppn: 512},
	}
	for _, n := range []int{1, 2, 3, 16} {
		for i := range n {
			// Page numbers that are no multiples, in the set that they would have.
			rest := []api.Entry{at(1, uint64(i)*sizes[1], 1), at(2, uint64(i)*sizes[2], 1)}
			rest[0].Vpn, rest[1].Vpn = rest[0].Vpn+1, rest[1].Vpn+512
			for _, b := range []api.Tlb{laid(n), full(n)} {
				for way := range ways {
					for _, e := range append(rest, wrong...) {
						c := copied(b)
						c.Sets[i].Ways[way] = e
						if tlb.Right(c) {
							t.Errorf("of %d sets, with %+v in the set %d, the way %d: right", n, e, i, way)
						}
					}
				}
				for tree := range 256 {
					c := copied(b)
					c.Sets[i].Tree = uint8(tree)
					if tlb.Right(c) != (tree <= 7) {
						t.Errorf("of %d sets, with the tree %d in the set %d: %v", n, tree, i, tlb.Right(c))
					}
				}
			}
		}
	}
}

// P14.1: the sets of entries, written out: the rest of the page number's part by 1, 512, 512 times that.
func TestRightPlace(t *testing.T) {
	for _, x := range []struct {
		sets, level int
		vpn         uint64
		home        int
	}{
		{1, 0, 0, 0}, {1, 0, 1<<27 - 1, 0}, {1, 1, 512, 0}, {1, 2, 1 << 18, 0},
		{2, 0, 4, 0}, {2, 0, 6, 0}, {2, 0, 5, 1}, {2, 0, 1<<27 - 1, 1}, {2, 1, 0, 0}, {2, 1, 512, 1}, {2, 1, 1024, 0}, {2, 2, 1 << 18, 1}, {2, 2, 2 << 18, 0},
		{3, 0, 2, 2}, {3, 0, 3, 0}, {3, 0, 512, 2}, {3, 0, 1<<27 - 1, 1}, {3, 1, 512, 1}, {3, 1, 1024, 2}, {3, 1, 1536, 0}, {3, 1, 1 << 18, 2}, {3, 1, 1<<27 - 512, 0},
		{3, 2, 1 << 18, 1}, {3, 2, 2 << 18, 2}, {3, 2, 3 << 18, 0}, {3, 2, 511 << 18, 1}, {3, 0, 1 << 26, 1}, {3, 1, 1 << 26, 2}, {3, 2, 1 << 26, 1},
		{5, 0, 512, 2}, {5, 1, 512, 1}, {5, 2, 1 << 18, 1}, {7, 2, 511 << 18, 0}, {15, 0, 31, 1}, {15, 1, 29 * 512, 14},
		{16, 0, 15, 15}, {16, 0, 16, 0}, {16, 0, 512, 0}, {16, 1, 512, 1}, {16, 1, 15 * 512, 15}, {16, 1, 16 * 512, 0}, {16, 2, 1 << 18, 1}, {16, 2, 15 << 18, 15},
		{16, 2, 16 << 18, 0}, {16, 0, 1<<27 - 1, 15}, {16, 1, 1<<27 - 512, 15}, {16, 2, 511 << 18, 15},
	} {
		e := api.Entry{Valid: true, Level: x.level, Vpn: x.vpn, Asid: 1}
		if home(e, x.sets) != x.home {
			t.Errorf("the tests' home of %+v in %d: %d, not %d", e, x.sets, home(e, x.sets), x.home)
		}
		for i := range x.sets {
			if b := laid(x.sets, place{i, 2, e}); tlb.Right(b) != (i == x.home) {
				t.Errorf("%+v in the set %d of %d: %v", e, i, x.sets, tlb.Right(b))
			}
		}
	}
}

// P14.1: an entry of each page, of each number of sets, in each of these: right in its own one alone, also beside others, in whichever way.
func TestRightPlaces(t *testing.T) {
	for sets := 1; sets <= 16; sets++ {
		for n, e := range pages() {
			for i := range sets {
				b, way := laid(sets), (n+i)%ways
				if n%2 == 1 {
					b = full(sets)
				}
				b.Sets[i].Ways[way] = e
				if tlb.Right(b) != (i == home(e, sets)) {
					t.Fatalf("%+v in the set %d of %d, the way %d: %v", e, i, sets, way, tlb.Right(b))
				}
			}
		}
	}
}

// P14.1: the Valid entries of buffers with some ways empty, set by set and way by way, those twice that are there twice.
func TestAll(t *testing.T) {
	a, b, c, d := at(0, 0x1000, 1), at(1, 0x200000, 2), at(2, 0, 1), global(0, 0x5000, 3)
	for i, x := range []struct {
		sets int
		l    []place
		want []api.Entry
	}{
		{0, nil, nil},
		{1, nil, nil},
		{16, nil, nil},
		{1, []place{{0, 0, a}}, []api.Entry{a}},
		{1, []place{{0, 3, a}}, []api.Entry{a}},
		{1, []place{{0, 3, a}, {0, 1, b}}, []api.Entry{b, a}},
		{1, []place{{0, 0, a}, {0, 1, b}, {0, 2, c}, {0, 3, d}}, []api.Entry{a, b, c, d}},
		{1, []place{{0, 0, d}, {0, 1, c}, {0, 2, b}, {0, 3, a}}, []api.Entry{d, c, b, a}},
		{1, []place{{0, 0, a}, {0, 2, a}}, []api.Entry{a, a}},
		{2, []place{{1, 0, a}, {0, 3, c}, {1, 2, b}}, []api.Entry{c, a, b}},
		{2, []place{{1, 0, a}, {1, 1, b}, {1, 3, d}}, []api.Entry{a, b, d}},
		{4, []place{{1, 0, d}, {1, 3, a}, {0, 0, c}}, []api.Entry{c, d, a}},
		{16, []place{{5, 0, d}, {1, 1, a}, {0, 2, c}, {1, 3, b}}, []api.Entry{c, a, b, d}},
	} {
		buffer := laid(x.sets, x.l...)
		if got := tlb.All(buffer); !tlb.Right(buffer) || !slices.Equal(got, x.want) {
			t.Errorf("%d: %+v, not %+v", i, got, x.want)
		}
	}
	for sets := range 17 {
		b := full(sets)
		var want []api.Entry
		for i := range sets {
			want = append(want, b.Sets[i].Ways[:]...)
		}
		if got := tlb.All(b); len(got) != 4*sets || !slices.Equal(got, want) {
			t.Errorf("of %d full sets: %+v", sets, got)
		}
	}
}

// P14.2: what is found, written out.
func TestFind(t *testing.T) {
	a, b, m, l := at(0, 0x200000, 1), at(0, 0x200000, 2), at(1, 0x200000, 1), at(2, 0, 1)
	g, high := global(0, 0x200000, 3), at(0, 0xfffffffffffff000, 1)
	far, great := global(1, 0xffffffffffe00000, 3), at(2, 0xffffffffc0000000, 1)
	dirty := a
	dirty.Dirty, dirty.Perm.W = true, true
	for i, x := range []struct {
		sets       int
		l          []place
		asid, addr uint64
		want       place
		ok         bool
	}{
		{0, nil, 1, 0x200000, place{}, false},
		{1, nil, 1, 0x200000, place{}, false},
		{3, nil, 0, 0, place{}, false},
		{1, []place{{0, 0, a}}, 1, 0x200000, place{0, 0, a}, true},
		{1, []place{{0, 3, a}}, 1, 0x200fff, place{0, 3, a}, true},
		{1, []place{{0, 3, a}}, 1, 0x1fffff, place{}, false},
		{1, []place{{0, 3, a}}, 1, 0x201000, place{}, false},
		{1, []place{{0, 3, a}}, 2, 0x200000, place{}, false},
		{3, []place{{2, 1, a}}, 1, 0x200000, place{2, 1, a}, true},
		// pages of several levels match: the least one, whatever the way and the set
		{1, []place{{0, 0, l}, {0, 1, m}, {0, 2, a}}, 1, 0x200000, place{0, 2, a}, true},
		{1, []place{{0, 0, l}, {0, 1, m}, {0, 2, a}}, 1, 0x201000, place{0, 1, m}, true},
		{1, []place{{0, 0, l}, {0, 1, m}, {0, 2, a}}, 1, 0x1fffff, place{0, 0, l}, true},
		{3, []place{{0, 0, l}, {1, 1, m}, {2, 3, a}}, 1, 0x200000, place{2, 3, a}, true},
		{3, []place{{0, 0, l}, {1, 1, m}, {2, 3, a}}, 1, 0x3fffff, place{1, 1, m}, true},
		{3, []place{{0, 0, l}, {1, 1, m}, {2, 3, a}}, 1, 0x400000, place{0, 0, l}, true},
		{3, []place{{0, 0, l}, {1, 1, m}, {2, 3, a}}, 1, 0x40000000, place{}, false},
		{3, []place{{0, 2, l}, {2, 3, a}}, 1, 0x200abc, place{2, 3, a}, true},
		{3, []place{{0, 2, l}, {1, 3, m}}, 1, 0x200abc, place{1, 3, m}, true},
		{3, []place{{0, 2, l}, {1, 3, m}, {2, 0, b}}, 1, 0x200abc, place{1, 3, m}, true},
		// two ways match: the least one
		{1, []place{{0, 1, dirty}, {0, 3, a}}, 1, 0x200000, place{0, 1, dirty}, true},
		{1, []place{{0, 1, a}, {0, 3, dirty}}, 1, 0x200000, place{0, 1, a}, true},
		{3, []place{{2, 2, g}, {2, 3, a}}, 1, 0x200000, place{2, 2, g}, true},
		{3, []place{{2, 2, a}, {2, 3, g}}, 1, 0x200000, place{2, 2, a}, true},
		{3, []place{{2, 1, b}, {2, 2, a}, {2, 3, g}}, 3, 0x200000, place{2, 3, g}, true},
		// numbers, of global ones and others
		{3, []place{{2, 1, g}}, 0, 0x200000, place{2, 1, g}, true},
		{3, []place{{2, 1, g}}, 1 << 20, 0x200000, place{2, 1, g}, true},
		{3, []place{{2, 1, b}}, 1, 0x200000, place{}, false},
		{3, []place{{2, 0, b}, {0, 0, l}}, 2, 0x200000, place{2, 0, b}, true},
		{3, []place{{2, 0, b}, {0, 0, l}}, 2, 0x201000, place{}, false},
		// the last pages, which are the third part's second and first
		{3, []place{{1, 0, high}, {0, 0, far}, {1, 1, great}}, 1, all, place{1, 0, high}, true},
		{3, []place{{1, 0, high}, {0, 0, far}, {1, 1, great}}, 2, all, place{0, 0, far}, true},
		{3, []place{{1, 0, high}, {0, 0, far}, {1, 1, great}}, 1, 0xffffffffffffefff, place{0, 0, far}, true},
		{3, []place{{1, 0, high}, {0, 0, far}, {1, 1, great}}, 1, 0xffffffffffdfffff, place{1, 1, great}, true},
		{3, []place{{1, 0, high}, {0, 0, far}, {1, 1, great}}, 1, 0xffffffffbfffffff, place{}, false},
	} {
		buffer := laid(x.sets, x.l...)
		e, s, way, ok := tlb.Find(buffer, x.asid, x.addr)
		if !tlb.Right(buffer) || (place{s, way, e}) != x.want || ok != x.ok {
			t.Errorf("%d: Find of %d, %#x: %+v, %d, %d, %v", i, x.asid, x.addr, e, s, way, ok)
		}
	}
}

// found tells what is to be found of a right buffer: of all places whose entry is Valid, has the address in its page and the number, the one of the least level, and of these the least one.
func found(b api.Tlb, asid, addr uint64) (place, bool) {
	var best place
	ok := false
	for i, s := range b.Sets {
		for way, e := range s.Ways {
			if e.Valid && addr-first(e) < sizes[e.Level] && (e.Global || e.Asid == asid) && (!ok || e.Level < best.e.Level) {
				best, ok = place{i, way, e}, true
			}
		}
	}
	return best, ok
}

// P14.2: what is found in buffers of each number of sets, filled by and by, and thinned, at many addresses, by many numbers.
func TestFindEverywhere(t *testing.T) {
	for sets := range 17 {
		b := laid(sets)
		for n, e := range pages() {
			if sets > 0 {
				b.Sets[home(e, sets)].Ways[n*7/2%ways] = e
			}
			if sets > 0 && n%5 == 4 {
				b.Sets[n%sets].Ways[n/3%ways] = api.Entry{}
			}
			if !tlb.Right(b) {
				t.Fatalf("%+v isn't right", b)
			}
			for k, a := range addresses {
				asid := uint64(n+k) % 4
				want, is := found(b, asid, a)
				if e, s, way, ok := tlb.Find(b, asid, a); ok != is || (place{s, way, e}) != want {
					t.Fatalf("Find of %d, %#x of %d sets: %+v, %d, %d, %v, not %+v", asid, a, sets, e, s, way, ok, want)
				}
			}
		}
	}
}

// P14.3: each way of each set used, the first and the last among them: its tree is touched, all else stays.
func TestUse(t *testing.T) {
	// The trees behind a touch of each tree, by the ways.
	trees := [ways][8]uint8{{3, 3, 3, 3, 7, 7, 7, 7}, {1, 1, 1, 1, 5, 5, 5, 5}, {4, 4, 6, 6, 4, 4, 6, 6}, {0, 0, 2, 2, 0, 0, 2, 2}}
	for _, sets := range []int{1, 2, 3, 8, 15, 16} {
		for _, b := range []api.Tlb{laid(sets), full(sets)} {
			for i := range sets {
				for way := range ways {
					want := copied(b)
					want.Sets[i].Tree = trees[way][i%8]
					got := tlb.Use(b, i, way)
					if !like(got, want) || !tlb.Right(got) || got.Sets[i].Tree != plru.Touch(b.Sets[i].Tree, way) {
						t.Errorf("Use of %d, %d of %d sets: %+v", i, way, sets, got)
					}
				}
			}
		}
	}
}

// P14.3: each way of each set dropped, the first and the last among them: it is zero, be it already, and all else stays.
func TestDrop(t *testing.T) {
	for _, sets := range []int{1, 2, 3, 15, 16} {
		for _, b := range []api.Tlb{laid(sets), full(sets), laid(sets, place{0, 0, at(0, 0, 1)}, place{sets - 1, 3, at(1, uint64(sets-1)*sizes[1], 1)})} {
			for i := range sets {
				for way := range ways {
					want := copied(b)
					want.Sets[i].Ways[way] = api.Entry{}
					if got, e := tlb.Drop(b, i, way); e != api.OK || !like(got, want) || !tlb.Right(got) {
						t.Errorf("Drop of %d, %d of %d sets: %+v, %d", i, way, sets, got, e)
					}
				}
			}
		}
	}
}

// P14.3: a set or a way that there isn't: the buffer that was handed in, and ErrArg.
func TestDropWrong(t *testing.T) {
	for _, sets := range []int{0, 1, 2, 16} {
		for _, b := range []api.Tlb{laid(sets), full(sets)} {
			for _, x := range [][2]int{
				{-1, 0}, {-1, 3}, {-1, -1}, {sets, 0}, {sets, 3}, {sets, 4}, {sets + 1, 0}, {0, -1}, {0, 4}, {0, 5}, {sets - 1, -1}, {sets - 1, 4}, {-sets, 0},
				{17, 0}, {math.MinInt, 0}, {math.MaxInt, 0}, {1 << 32, 0}, {0, math.MinInt}, {0, math.MaxInt}, {0, 1 << 32},
			} {
				if x[0] == 0 && x[1] >= 0 && x[1] < ways && sets > 0 {
					continue
				}
				want := copied(b)
				if got, e := tlb.Drop(b, x[0], x[1]); e != api.ErrArg || !like(got, want) {
					t.Errorf("Drop of %d, %d of %d sets: %+v, %d", x[0], x[1], sets, got, e)
				}
			}
		}
	}
}

// P14.3: what is put into a buffer of no sets leaves it as it was.
func TestPutNone(t *testing.T) {
	for _, e := range pages() {
		for victim := -1; victim <= 4; victim++ {
			if got := tlb.Put(laid(0), e, victim); len(got.Sets) != 0 {
				t.Fatalf("Put of %+v into none: %+v", e, got)
			}
			if got := tlb.Put(api.Tlb{}, e, victim); len(got.Sets) != 0 {
				t.Fatalf("Put of %+v into nil: %+v", e, got)
			}
		}
	}
}

// P14.3: puts of each level, written out: into empty ways, by victims and by the tree, where the page is there already, where the set is full; the trees of the sets are their places.
func TestPut(t *testing.T) {
	a, m, l := at(0, 0x200000, 1), at(1, 0x200000, 1), at(2, 0x40000000, 1)
	b, g, d := at(0, 0x200000, 2), global(0, 0x200000, 3), a
	d.Dirty, d.Ppn = true, 4<<18
	three := []place{{0, 0, b}, {0, 1, m}, {0, 2, l}}
	four := []place{{0, 0, b}, {0, 1, m}, {0, 2, l}, {0, 3, at(0, 0x3000, 1)}}
	late := []place{{1, 0, at(0, 0x1000, 1)}, {1, 1, m}, {1, 2, l}, {1, 3, at(0, 0x11000, 1)}}
	for i, x := range []struct {
		sets   int
		l      []place
		e      api.Entry
		victim int
		zero   [][2]int
		set    int
		way    int
		tree   uint8
	}{
		{1, nil, a, -1, nil, 0, 0, 3},
		{1, nil, m, 4, nil, 0, 0, 3},
		{1, nil, l, 2, nil, 0, 2, 4},
		{3, nil, a, -1, nil, 2, 0, 3},
		{3, nil, m, -1, nil, 1, 0, 3},
		{3, nil, l, -1, nil, 1, 0, 3},
		{16, nil, a, -1, nil, 0, 0, 3},
		{16, nil, m, 1, nil, 1, 1, 1},
		{16, nil, l, 3, nil, 1, 3, 0},
		{16, nil, at(0, 0xf000, 1), -1, nil, 15, 0, 7},
		{16, nil, at(1, all, 1), 0, nil, 15, 0, 7},
		{16, nil, at(2, all, 1), 3, nil, 15, 3, 2},
		// the least way that is empty, or the victim
		{1, three, a, -1, nil, 0, 3, 0},
		{1, three, a, 4, nil, 0, 3, 0},
		{1, three, a, 0, nil, 0, 0, 3},
		{1, three, a, 1, nil, 0, 1, 1},
		{1, three, a, 2, nil, 0, 2, 4},
		{1, three, a, 3, nil, 0, 3, 0},
		// a full one: by the tree, or the victim
		{1, four, a, -1, nil, 0, 0, 3},
		{1, four, a, 4, nil, 0, 0, 3},
		{1, four, a, 1, nil, 0, 1, 1},
		{16, late, global(1, 17*sizes[1], 1), -1, nil, 1, 2, 4},
		{16, late, at(0, 0x21000, 1), 4, nil, 1, 2, 4},
		{16, late, at(2, 17*sizes[2], 1), 0, nil, 1, 0, 3},
		// the page is there already: in the same way, in others, of the same number or global
		{1, []place{{0, 0, a}}, d, -1, nil, 0, 0, 3},
		{1, []place{{0, 1, a}}, d, -1, [][2]int{{0, 1}}, 0, 0, 3},
		{1, []place{{0, 0, b}, {0, 1, a}, {0, 2, m}}, d, 3, [][2]int{{0, 1}}, 0, 3, 0},
		{1, []place{{0, 0, b}, {0, 1, a}, {0, 2, m}, {0, 3, l}}, d, -1, nil, 0, 1, 1},
		{3, []place{{2, 0, b}, {2, 3, a}, {1, 0, m}}, g, -1, [][2]int{{2, 3}}, 2, 0, 3},
		{3, []place{{2, 1, b}, {2, 2, g}, {2, 3, a}, {1, 0, m}}, a, 3, [][2]int{{2, 2}}, 2, 3, 2},
		{3, []place{{1, 3, m}, {2, 0, a}}, m, 0, [][2]int{{1, 3}}, 1, 0, 3},
		{16, late, l, -1, nil, 1, 2, 4},
		{16, late, l, 3, [][2]int{{1, 2}}, 1, 3, 0},
	} {
		buffer := laid(x.sets, x.l...)
		want := copied(buffer)
		for _, z := range x.zero {
			want.Sets[z[0]].Ways[z[1]] = api.Entry{}
		}
		want.Sets[x.set].Ways[x.way], want.Sets[x.set].Tree = x.e, x.tree
		if got := tlb.Put(buffer, x.e, x.victim); !tlb.Right(buffer) || !tlb.Right(got) || !like(got, want) {
			t.Errorf("%d: %+v, not %+v", i, got, want)
		}
	}
}

// P14.3: puts into empty, filling and full buffers of each number of sets, of all pages, by each victim: as layer 13 puts into the entry's set, all others as they were.
func TestPutEverywhere(t *testing.T) {
	for sets := 1; sets <= 16; sets++ {
		for _, b := range []api.Tlb{laid(sets), full(sets)} {
			for n, e := range pages() {
				for _, victim := range []int{-1, 0, 1, 2, 3, 4, -5, 8, math.MinInt, math.MaxInt} {
					want, i := copied(b), home(e, sets)
					want.Sets[i], _ = set.Put(b.Sets[i], e, victim)
					if got := tlb.Put(b, e, victim); !like(got, want) || !tlb.Right(got) {
						t.Fatalf("Put of %+v into %d sets by %d: %+v, not %+v", e, sets, victim, got, want)
					}
				}
				b = tlb.Put(b, e, n%6-1)
			}
		}
	}
}

// P14.4: what is put is found by the first, a middle and the last address of its page, by its number, of global ones by all, unless a lesser page that is there has that address.
func TestPutFound(t *testing.T) {
	for sets := 1; sets <= 16; sets++ {
		// The greatest pages first, since a lesser one that is there is found ahead; then the least first.
		for _, b := range []api.Tlb{laid(sets), full(sets)} {
			l := pages()
			slices.Reverse(l)
			for n, e := range append(l, pages()...) {
				b = tlb.Put(b, e, n%6-1)
				asids := []uint64{e.Asid}
				if e.Global {
					asids = []uint64{0, 1, 2, 3, 1<<16 - 1}
				}
				for _, asid := range asids {
					for _, off := range []uint64{0, sizes[e.Level] / 2, sizes[e.Level] - 1} {
						want, _ := found(b, asid, first(e)+off)
						got, s, way, ok := tlb.Find(b, asid, first(e)+off)
						if !ok || got.Level > e.Level || got.Level == e.Level && (got != e || s != home(e, sets)) || (place{s, way, got}) != want {
							t.Fatalf("%+v put into %d sets, at %#x of %d: found %+v, %d, %d, %v", e, sets, first(e)+off, asid, got, s, way, ok)
						}
					}
				}
			}
		}
	}
}

// P14.4: into an empty buffer, of each number of sets, by each victim: found just where the page is, and just by its number.
func TestPutAlone(t *testing.T) {
	for sets := 1; sets <= 16; sets++ {
		for _, e := range pages() {
			for victim := -1; victim <= 4; victim++ {
				b, _ := tlb.New(sets)
				b = tlb.Put(b, e, victim)
				way := victim
				if victim < 0 || victim > 3 {
					way = 0
				}
				for _, a := range []uint64{first(e), first(e) + sizes[e.Level] - 1} {
					if got, s, w, ok := tlb.Find(b, e.Asid, a); !ok || got != e || s != home(e, sets) || w != way {
						t.Fatalf("%+v put into %d sets by %d, at %#x: %+v, %d, %d, %v", e, sets, victim, a, got, s, w, ok)
					}
					if _, _, _, ok := tlb.Find(b, e.Asid+1, a); ok != e.Global {
						t.Fatalf("%+v put into %d sets, of another number: %v", e, sets, ok)
					}
				}
				for _, a := range []uint64{first(e) - 1, first(e) + sizes[e.Level]} {
					if got, s, w, ok := tlb.Find(b, e.Asid, a); ok || got != (api.Entry{}) || s != 0 || w != 0 {
						t.Fatalf("%+v put into %d sets, beside it at %#x: %+v, %d, %d, %v", e, sets, a, got, s, w, ok)
					}
				}
				if l := tlb.All(b); len(l) != 1 || l[0] != e {
					t.Fatalf("%+v put into %d sets: %+v", e, sets, l)
				}
			}
		}
	}
}

// P14.3, P14.4: the page is put again and again, in each way: it is there once.
func TestPutOnce(t *testing.T) {
	for _, sets := range []int{1, 3, 16} {
		for _, e := range pages() {
			b := laid(sets)
			for n := range 12 {
				e.Ppn = uint64(n) << 18
				b = tlb.Put(b, e, n%6-1)
				if l := tlb.All(b); len(l) != 1 || l[0] != e {
					t.Fatalf("%+v put again into %d sets: %+v", e, sets, l)
				}
			}
		}
	}
}

// P14.5: what is handed in is as it was behind each call, set by set, the room behind the list included; and what is answered shares no cells with it, where it changed.
func TestStays(t *testing.T) {
	calls := map[string]func(b api.Tlb, i, way int) api.Tlb{
		"New":   func(b api.Tlb, i, way int) api.Tlb { n, _ := tlb.New(len(b.Sets)); return n },
		"Right": func(b api.Tlb, i, way int) api.Tlb { tlb.Right(b); return api.Tlb{} },
		"All": func(b api.Tlb, i, way int) api.Tlb {
			l := tlb.All(b)
			for n := range l {
				l[n] = api.Entry{Asid: 9}
			}
			return api.Tlb{}
		},
		"Find":  func(b api.Tlb, i, way int) api.Tlb { tlb.Find(b, 1, uint64(i)<<12); return api.Tlb{} },
		"Use":   func(b api.Tlb, i, way int) api.Tlb { return tlb.Use(b, i, way) },
		"Drop":  func(b api.Tlb, i, way int) api.Tlb { d, _ := tlb.Drop(b, i, way); return d },
		"Wrong": func(b api.Tlb, i, way int) api.Tlb { d, _ := tlb.Drop(b, i+16, way); return d },
		"Put":   func(b api.Tlb, i, way int) api.Tlb { return tlb.Put(b, global(way%3, uint64(i)<<30, 5), way) },
		"Tree":  func(b api.Tlb, i, way int) api.Tlb { return tlb.Put(b, at(way%3, uint64(i)<<30|0x5000, 5), -1) },
	}
	for name, call := range calls {
		for _, sets := range []int{0, 1, 2, 3, 16} {
			for i := range sets + 1 {
				for way := range ways {
					// Full, with a room behind the list that is filled, too.
					b := full(sets + 1)
					b.Sets = b.Sets[:sets]
					was := copied(api.Tlb{Sets: b.Sets[:cap(b.Sets)]})
					got := call(b, min(i, max(sets-1, 0)), way)
					if !like(api.Tlb{Sets: b.Sets[:cap(b.Sets)]}, was) {
						t.Fatalf("%s of %d sets changes what is handed in", name, sets)
					}
					if like(got, b) {
						continue
					}
					room := got.Sets[:cap(got.Sets)]
					for n := range room {
						room[n] = api.Set{Tree: 99}
					}
					if !like(api.Tlb{Sets: b.Sets[:cap(b.Sets)]}, was) {
						t.Fatalf("%s of %d sets shares cells with what is handed in", name, sets)
					}
				}
			}
		}
	}
}

// P14.5: answers of the same call share nothing with one another, where they changed.
func TestApart(t *testing.T) {
	b := full(4)
	for name, call := range map[string]func() api.Tlb{
		"Use":  func() api.Tlb { return tlb.Use(b, 1, 3) },
		"Drop": func() api.Tlb { d, _ := tlb.Drop(b, 3, 3); return d },
		"Put":  func() api.Tlb { return tlb.Put(b, at(0, 0x7000, 6), -1) },
	} {
		one, two := call(), call()
		was := copied(two)
		if like(one, b) || !like(one, two) {
			t.Errorf("%s: %+v and %+v", name, one, two)
		}
		for i := range one.Sets {
			one.Sets[i] = api.Set{Tree: 99}
		}
		if !like(two, was) {
			t.Errorf("%s: two answers share cells", name)
		}
	}
}

// The chapter's example: of a buffer of two sets the pages 4 and 6 share the set 0.
func TestExamples(t *testing.T) {
	b, _ := tlb.New(2)
	for i, n := range []uint64{4, 6, 5} {
		b = tlb.Put(b, at(0, n*4096, 1), -1)
		if _, s, way, ok := tlb.Find(b, 1, n*4096); !ok || s != int(n%2) || way != i%2 {
			t.Errorf("the page %d: %d, %d, %v", n, s, way, ok)
		}
	}
}

// Of buffers that aren't right, entries that may not be, addresses that aren't canonical, and places that are none nothing is promised but that every call ends, and none panics.
func TestNoPanic(t *testing.T) {
	odd := []api.Entry{{}, {Asid: 1, Vpn: all}, {Valid: true, Vpn: all, Ppn: all, Asid: all}, {Valid: true, Global: true, Vpn: 1 << 27, Perm: api.Perm{W: true}}}
	for _, level := range []int{-1, 3, 4, 7, 8, 64, -8, 1 << 32, math.MinInt, math.MaxInt, math.MaxInt / 9, math.MinInt / 9} {
		odd = append(odd, api.Entry{Level: level, Vpn: 5}, api.Entry{Valid: true, Level: level, Vpn: all})
	}
	for _, sets := range []int{0, 1, 3, 16, 17, 40} {
		b := laid(sets)
		for i := range b.Sets {
			b.Sets[i] = api.Set{Tree: uint8(i * 77), Ways: [ways]api.Entry{odd[i%len(odd)], odd[i*3%len(odd)], odd[i*5%len(odd)], odd[(i+7)%len(odd)]}}
		}
		tlb.Right(b)
		tlb.All(b)
		for _, n := range []int{0, 1, 3, 4, 16, 17, 40, -1, 1 << 32, math.MinInt, math.MaxInt} {
			for _, way := range []int{0, 3, 4, -1, math.MinInt, math.MaxInt} {
				tlb.Use(b, n, way)
				tlb.Drop(b, n, way)
			}
			for _, e := range odd {
				tlb.Put(b, e, n)
			}
			for _, a := range []uint64{0, 1 << 38, 1 << 39, 1 << 63, all >> 1, all} {
				tlb.Find(b, uint64(n), a)
			}
		}
	}
}
