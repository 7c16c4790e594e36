package fence_test

import (
	"math"
	"slices"
	"testing"

	"atlas/api"
	"atlas/fence"
	"atlas/tlb"
)

const (
	all  = ^uint64(0)
	ways = 4
	// wide is how many addresses are canonical.
	wide = 1 << 39
)

// sizes are the bytes of a page, by the levels.
var sizes = [3]uint64{0x1000, 0x200000, 0x40000000}

// addresses are canonical ones: the ends of both halves, and of pages of each level.
var addresses = []uint64{
	0, 0xfff, 0x1000, 0x5abc, 0x1fffff, 0x200000, 0x200fff, 0x201000, 0x3fffff, 0x400000, 0x3fffffff, 0x40000000, 0x40200000, 0x7fffffff, 0x80000000,
	0x3fc0000000, 0x3fffffffff, 0xffffffc000000000, 0xffffffc000200000, 0xffffffc040000000, 0xffffffffc0000000, 0xffffffffffe00000, 0xfffffffffffff000, all,
}

// numbers are such as entries have here, such as none has, and such as no entry can have, whose lowest bits are as those of some.
var numbers = []uint64{0, 1, 2, 3, 4, 1<<16 - 1, 1 << 16, 1<<16 + 1, 1<<32 | 1, 1<<63 | 2, all - 1, all}

// at tells the entry of the page of the level in which the address lies, of a number, that isn't global.
func at(level int, addr, asid uint64) api.Entry {
	vpn := addr % wide / sizes[level] * (sizes[level] / 4096)
	return api.Entry{Valid: true, Asid: asid, Level: level, Vpn: vpn, Ppn: 3 << 18, Perm: api.Perm{R: true}}
}

// global tells the entry that at tells, but global.
func global(level int, addr, asid uint64) api.Entry {
	e := at(level, addr, asid)
	e.Global = true
	return e
}

// first tells the first address of the page of an entry.
func first(e api.Entry) uint64 {
	if a := e.Vpn * 4096; a < wide/2 {
		return a
	}
	return e.Vpn*4096 - wide
}

// home tells the place of an entry's set.
func home(e api.Entry, sets int) int {
	return int(first(e) % wide / sizes[e.Level] % uint64(sets))
}

// pages tells the entries, of the numbers 1 and 2 and global ones of 1 and 3, of all pages of each level in which one of the addresses lies.
func pages() []api.Entry {
	var l []api.Entry
	for level := range 3 {
		for _, a := range addresses {
			for _, e := range []api.Entry{at(level, a, 1), at(level, a, 2), global(level, a, 1), global(level, a, 3), at(level, a, 1<<16-1)} {
				if !slices.Contains(l, e) {
					l = append(l, e)
				}
			}
		}
	}
	return l
}

// names tells whether f names e, by the first address of e's page.
func names(f api.Fence, e api.Entry) bool {
	switch {
	case !e.Valid:
		return false
	case f.HasAddr && f.Addr-first(e) >= sizes[e.Level]:
		return false
	case f.HasAsid && (e.Global || e.Asid != f.Asid):
		return false
	}
	return true
}

// forms tells the fences of all four forms, of that number and that address; each has both numbers, also where they don't count.
func forms(asid, addr uint64) []api.Fence {
	var l []api.Fence
	for n := range 4 {
		l = append(l, api.Fence{HasAddr: n%2 == 1, Addr: addr, HasAsid: n/2 == 1, Asid: asid})
	}
	return l
}

// fences tells fences of all four forms, of many numbers and addresses, some of these not canonical.
func fences() []api.Fence {
	l := []api.Fence{{}}
	for i, a := range addresses {
		asid := numbers[i%len(numbers)]
		l = append(l, fence.Of(asid, a), fence.Asid(asid), fence.Addr(a), fence.Of(1, a), fence.Addr(a^1<<(38+i)), fence.Of(2, a^1<<63))
		l = append(l, forms(asid, a)...)
	}
	return l
}

// place tells where an entry stands.
type place struct {
	set, way int
	e        api.Entry
}

// laid tells the buffer of that many sets, whose ways are as the places tell, and whose trees are 1, 2 and so on; a room of one set, which isn't empty, lies behind its list.
func laid(sets int, l ...place) api.Tlb {
	t := api.Tlb{Sets: make([]api.Set, sets, sets+1)}
	for i := range t.Sets {
		t.Sets[i].Tree = uint8((i + 1) % 8)
	}
	t.Sets[:sets+1][sets] = api.Set{Tree: 5, Ways: [ways]api.Entry{at(0, 0x200000, 1), global(1, 0, 1)}}
	for _, p := range l {
		t.Sets[p.set].Ways[p.way] = p.e
	}
	return t
}

// filled tells buffers of that many sets that are filled by and by with all pages, each in its set; in some of them ways are empty.
func filled(sets int) []api.Tlb {
	l := []api.Tlb{laid(sets)}
	if sets == 0 {
		return l
	}
	b := laid(sets)
	for n, e := range pages() {
		b.Sets[home(e, sets)].Ways[n*7/2%ways] = e
		if n%5 == 4 {
			b.Sets[n%sets].Ways[n/3%ways] = api.Entry{}
		}
		if n%8 == 0 {
			l = append(l, copied(b))
		}
	}
	return append(l, full(sets))
}

// full tells the buffer of that many sets of which no way is empty: pages of all levels, of one number after another.
func full(sets int) api.Tlb {
	b := laid(sets)
	for i := range sets {
		for way := range ways {
			level := (i + way) % 3
			e := at(level, uint64(i+way/3*sets)*sizes[level], uint64(1+way%2))
			e.Global = (i+way)%5 == 3
			b.Sets[i].Ways[way] = e
		}
	}
	return b
}

// copied tells a buffer of the same sets, in new memory.
func copied(t api.Tlb) api.Tlb {
	return api.Tlb{Sets: append([]api.Set{}, t.Sets...)}
}

// like tells whether two buffers have the same sets, trees and empty ways included.
func like(t, u api.Tlb) bool {
	return slices.Equal(t.Sets, u.Sets)
}

// rest tells the buffer whose ways are zero if one of the fences names their entries.
func rest(t api.Tlb, l ...api.Fence) api.Tlb {
	t = copied(t)
	for i := range t.Sets {
		for way := range ways {
			if slices.ContainsFunc(l, func(f api.Fence) bool { return names(f, t.Sets[i].Ways[way]) }) {
				t.Sets[i].Ways[way] = api.Entry{}
			}
		}
	}
	return t
}

// P15.1: the fences of both, of the number alone, of the address alone, of any number and any address: what they haven't is 0.
func TestFences(t *testing.T) {
	for _, asid := range numbers {
		for _, addr := range append([]uint64{1 << 38, 1 << 39, 1 << 63, 0xffffffbfffffffff}, addresses...) {
			if f := fence.Of(asid, addr); f != (api.Fence{HasAddr: true, Addr: addr, HasAsid: true, Asid: asid}) {
				t.Errorf("Of(%d, %#x): %+v", asid, addr, f)
			}
			if f := fence.Addr(addr); f != (api.Fence{HasAddr: true, Addr: addr}) {
				t.Errorf("Addr(%#x): %+v", addr, f)
			}
		}
		if f := fence.Asid(asid); f != (api.Fence{HasAsid: true, Asid: asid}) {
			t.Errorf("Asid(%d): %+v", asid, f)
		}
	}
}

// P15.1: what fences of the four forms name, written out: by whether neither, the address, the number, or both are told.
func TestNames(t *testing.T) {
	type asked [4]bool
	none, every := asked{}, asked{true, true, true, true}
	for i, x := range []struct {
		e          api.Entry
		asid, addr uint64
		want       asked
	}{
		{at(0, 0x200000, 1), 1, 0x200000, every},
		{at(1, 0x200000, 1), 1, 0x200000, every},
		{at(2, 0x40000000, 1), 1, 0x40000000, every},
		{at(0, 0x5000, 0), 0, 0x5abc, every},
		{at(0, 0, 0), 0, 0, every},
		{at(0, all, 1<<16-1), 1<<16 - 1, all, every},
		// another number's
		{at(0, 0x200000, 1), 2, 0x200000, asked{true, true, false, false}},
		{at(1, 0x200000, 2), 1, 0x200000, asked{true, true, false, false}},
		{at(2, 0x200000, 2), 0, 0x200000, asked{true, true, false, false}},
		{at(0, 0, 0), 1, 0, asked{true, true, false, false}},
		{at(0, 0x200000, 1), 1<<16 + 1, 0x200000, asked{true, true, false, false}},
		{at(0, 0x200000, 1), 1<<63 | 1, 0x200000, asked{true, true, false, false}},
		{at(0, 0x200000, 0), 1 << 16, 0x200000, asked{true, true, false, false}},
		{at(0, 0x200000, 1<<16-1), all, 0x200000, asked{true, true, false, false}},
		// a global one
		{global(0, 0x200000, 1), 1, 0x200000, asked{true, true, false, false}},
		{global(1, 0x200000, 1), 1, 0x200000, asked{true, true, false, false}},
		{global(2, 0x200000, 1), 1, 0x200000, asked{true, true, false, false}},
		{global(0, 0x200000, 3), 1, 0x200000, asked{true, true, false, false}},
		{global(0, 0, 0), 0, 0, asked{true, true, false, false}},
		{global(0, 0x200000, 1), 1, 0x201000, asked{true, false, false, false}},
		// another page's
		{at(0, 0x200000, 1), 1, 0x201000, asked{true, false, true, false}},
		{at(0, 0x200000, 1), 1, 0x1fffff, asked{true, false, true, false}},
		{at(1, 0x200000, 1), 1, 0x400000, asked{true, false, true, false}},
		{at(1, 0x200000, 1), 1, 0x1fffff, asked{true, false, true, false}},
		{at(2, 0x40000000, 1), 1, 0x80000000, asked{true, false, true, false}},
		{at(2, 0x40000000, 1), 1, 0x3fffffff, asked{true, false, true, false}},
		{at(0, 0x200000, 1), 2, 0x201000, asked{true, false, false, false}},
		// an address that isn't canonical, with the page number of the entry's
		{at(0, 0x200000, 1), 1, 1<<40 | 0x200000, asked{true, false, true, false}},
		{at(1, 0x200000, 1), 1, 1<<63 | 0x200000, asked{true, false, true, false}},
		{at(2, 0, 1), 1, 1 << 39, asked{true, false, true, false}},
		{at(0, 0xffffffc000000000, 1), 1, 1 << 38, asked{true, false, true, false}},
		{at(2, all, 1), 1, 1<<39 - 1, asked{true, false, true, false}},
		{global(2, all, 1), 1, all >> 1, asked{true, false, false, false}},
		// one that isn't Valid
		{api.Entry{}, 0, 0, none},
		{api.Entry{}, 1, 0x200000, none},
	} {
		for n, f := range forms(x.asid, x.addr) {
			if got := fence.Names(f, x.e); got != x.want[n] {
				t.Errorf("%d: Names(%+v, %+v): %v", i, f, x.e, got)
			}
		}
	}
}

// P15.1: of each page the first and the last address and some between are named, those beside aren't; with its number, and with none.
func TestNamesEnds(t *testing.T) {
	for _, e := range pages() {
		size := sizes[e.Level]
		last := first(e) + size - 1
		for _, a := range []uint64{first(e), first(e) + 1, first(e) + size/2, last - 1, last} {
			if !fence.Names(fence.Addr(a), e) || fence.Names(fence.Of(e.Asid, a), e) == e.Global || fence.Names(fence.Of(e.Asid+1, a), e) {
				t.Errorf("%+v at %#x: %v, %v", e, a, fence.Names(fence.Addr(a), e), fence.Names(fence.Of(e.Asid, a), e))
			}
		}
		for _, a := range []uint64{first(e) - 1, first(e) - 4096, first(e) - size, last + 1, last + 4096, last + size} {
			if fence.Names(fence.Addr(a), e) || fence.Names(fence.Of(e.Asid, a), e) {
				t.Errorf("%+v beside it, at %#x: named", e, a)
			}
		}
	}
}

// P15.1: no entry is named by an address of its page of which one of the bits that must be alike, or several, are otherwise.
func TestNamesNotCanonical(t *testing.T) {
	for _, e := range pages() {
		for _, a := range []uint64{first(e), first(e) + sizes[e.Level] - 1} {
			for i := 38; i < 64; i++ {
				for _, b := range []uint64{a ^ 1<<i, a ^ 1<<i ^ 1<<63 ^ 1<<39} {
					if fence.Names(fence.Addr(b), e) || fence.Names(fence.Of(e.Asid, b), e) {
						t.Fatalf("%+v is named by %#x", e, b)
					}
				}
			}
		}
	}
}

// P15.1: an entry that isn't Valid is named by none, whatever else it has.
func TestNamesNotValid(t *testing.T) {
	for _, e := range append(pages(), api.Entry{}) {
		e.Valid = false
		for _, addr := range []uint64{0, first(e)} {
			for _, f := range forms(e.Asid, addr) {
				if fence.Names(f, e) {
					t.Fatalf("%+v names %+v", f, e)
				}
			}
		}
	}
}

// P15.1: where an entry leads, what it permits and whether it is Dirty count for nothing.
func TestNamesElse(t *testing.T) {
	for n := range 32 {
		on := func(i int) bool { return n>>i%2 == 1 }
		for _, e := range []api.Entry{at(0, 0x200000, 1), global(1, 0x200000, 1), at(2, 0, 1)} {
			f := e
			f.Perm, f.Dirty, f.Ppn = api.Perm{R: on(0), W: on(1), X: on(2), U: on(3)}, on(4), uint64(n)<<18
			for _, x := range append(forms(1, 0x200abc), forms(2, 0x200000)...) {
				if fence.Names(x, f) != names(x, e) {
					t.Errorf("Names(%+v, %+v): %v", x, f, !names(x, e))
				}
			}
		}
	}
}

// P15.1: all fences with all pages, asked twice, for nothing is kept.
func TestNamesEverywhere(t *testing.T) {
	for range 2 {
		for _, f := range fences() {
			for _, e := range append(pages(), api.Entry{}) {
				if got := fence.Names(f, e); got != names(f, e) {
					t.Fatalf("Names(%+v, %+v): %v", f, e, got)
				}
			}
		}
	}
}

// P15.2, P15.3: what is left, written out: the ways whose entries are named become zero, the others stay where they are, and so do the trees.
func TestDo(t *testing.T) {
	a, b, m, l, g := at(0, 0x200000, 1), at(0, 0x200000, 2), at(1, 0x200000, 1), at(2, 0, 1), global(0, 0x200000, 1)
	next, high := at(0, 0x203000, 1), global(2, all, 3)
	one := []place{{0, 0, a}, {0, 2, g}, {0, 3, b}}
	top := place{1, 3, high}
	three := []place{{0, 0, l}, top, {1, 1, m}, {2, 0, a}, {2, 1, g}, {2, 2, b}, {2, 3, next}}
	many := []place{{0, 0, l}, {0, 1, g}, {0, 3, a}, {1, 0, at(0, 0x1000, 2)}, {1, 2, m}, {3, 1, next}, {15, 3, high}}
	for i, x := range []struct {
		sets int
		l    []place
		f    api.Fence
		left []place
	}{
		{0, nil, api.Fence{}, nil},
		{0, nil, fence.Of(1, 0x200000), nil},
		{0, nil, fence.Asid(1), nil},
		{0, nil, fence.Addr(0), nil},
		{1, nil, api.Fence{}, nil},
		{1, nil, fence.Of(0, 0), nil},
		{1, one, api.Fence{}, nil},
		{1, one, fence.Of(1, 0x200000), one[1:]},
		{1, one, fence.Of(2, 0x200fff), one[:2]},
		{1, one, fence.Of(3, 0x200000), one},
		{1, one, fence.Of(1, 0x201000), one},
		{1, one, fence.Asid(1), one[1:]},
		{1, one, fence.Asid(2), one[:2]},
		{1, one, fence.Asid(0), one},
		{1, one, fence.Addr(0x200800), nil},
		{1, one, fence.Addr(0x1fffff), one},
		{1, one, fence.Addr(1<<62 | 0x200000), one},
		// several sets: pages of all levels at an address, of whichever set
		{3, three, api.Fence{}, nil},
		{3, three, fence.Addr(0x200000), []place{top, three[6]}},
		{3, three, fence.Addr(0x203fff), []place{top, three[3], three[4], three[5]}},
		{3, three, fence.Addr(0x204000), []place{top, three[3], three[4], three[5], three[6]}},
		{3, three, fence.Addr(0x1fffff), append([]place{top}, three[2:]...)},
		{3, three, fence.Addr(all), append([]place{three[0]}, three[2:]...)},
		{3, three, fence.Asid(1), []place{top, three[4], three[5]}},
		{3, three, fence.Asid(2), append(slices.Clone(three[:5]), three[6])},
		{3, three, fence.Asid(3), three},
		{3, three, fence.Of(1, 0x200000), []place{top, three[4], three[5], three[6]}},
		{3, three, fence.Of(2, 0x200000), append(slices.Clone(three[:5]), three[6])},
		{3, three, fence.Of(3, all), three},
		{16, many, api.Fence{}, nil},
		{16, many, fence.Addr(0x200123), []place{many[3], many[5], many[6]}},
		{16, many, fence.Addr(0xffffffffc0000000), many[:6]},
		{16, many, fence.Addr(0x1000), append(slices.Clone(many[1:3]), many[4:]...)},
		{16, many, fence.Asid(1), []place{many[1], many[3], many[6]}},
		{16, many, fence.Asid(2), append(slices.Clone(many[:3]), many[4:]...)},
		{16, many, fence.Of(1, 0x1fff), many[1:]},
		{16, many, fence.Of(2, 0x1fff), append(slices.Clone(many[:3]), many[4:]...)},
		// what a form hasn't doesn't count
		{1, one, api.Fence{Addr: 0x1000, Asid: 7}, nil},
		{1, one, api.Fence{HasAsid: true, Asid: 1, Addr: 0x1000}, one[1:]},
		{1, one, api.Fence{HasAddr: true, Addr: 0x200000, Asid: 7}, nil},
	} {
		buffer, want := laid(x.sets, x.l...), laid(x.sets, x.left...)
		if got := fence.Do(buffer, x.f); !tlb.Right(buffer) || !tlb.Right(got) || !like(got, want) {
			t.Errorf("%d: Do(%+v) of %+v: %+v, not %+v", i, x.f, buffer, got, want)
		}
	}
}

// P15.2: entries of one page that are there twice, in whichever ways, all go.
func TestDoTwice(t *testing.T) {
	a, m := at(0, 0x3000, 1), at(1, 0x600000, 1)
	b := laid(3, place{0, 0, a}, place{0, 1, m}, place{0, 2, m}, place{0, 3, a})
	for i, x := range []struct {
		f    api.Fence
		want api.Tlb
	}{
		{fence.Of(1, 0x3000), laid(3, place{0, 1, m}, place{0, 2, m})},
		{fence.Addr(0x3fff), laid(3, place{0, 1, m}, place{0, 2, m})},
		{fence.Addr(0x7fffff), laid(3, place{0, 0, a}, place{0, 3, a})},
		{fence.Asid(1), laid(3)},
	} {
		if got := fence.Do(b, x.f); !tlb.Right(b) || !like(got, x.want) {
			t.Errorf("%d: Do(%+v): %+v", i, x.f, got)
		}
	}
}

// P15.2, P15.3: each fence on buffers of each number of sets, empty, filling and full ones: way by way as it names them, the trees as they were.
func TestDoEverywhere(t *testing.T) {
	for sets := range 17 {
		for n, b := range filled(sets) {
			if !tlb.Right(b) {
				t.Fatalf("%+v isn't right", b)
			}
			for i, f := range fences() {
				if got := fence.Do(b, f); !like(got, rest(b, f)) || !tlb.Right(got) {
					t.Fatalf("%d, %d: Do(%+v) of %d sets: %+v, not %+v", n, i, f, sets, got, rest(b, f))
				}
			}
		}
	}
}

// P15.3: behind a fence of neither nothing is left, but the sets and their trees.
func TestDoNeither(t *testing.T) {
	for sets := range 17 {
		for _, b := range filled(sets) {
			for _, f := range []api.Fence{{}, {Addr: 1 << 38}, {Asid: 1}, {Addr: all, Asid: all}} {
				if got := fence.Do(b, f); len(tlb.All(got)) != 0 || !like(got, laid(sets)) {
					t.Fatalf("Do(%+v) of %d sets: %+v", f, sets, got)
				}
			}
		}
	}
}

// P15.2, P15.3: behind a fence just those that it names aren't found any more.
func TestDoFound(t *testing.T) {
	for _, sets := range []int{1, 3, 16} {
		for n, e := range pages() {
			for _, f := range fences() {
				b := fence.Do(tlb.Put(laid(sets), e, n%6-1), f)
				if _, _, _, ok := tlb.Find(b, e.Asid, first(e)); ok == names(f, e) {
					t.Fatalf("%+v behind %+v: found %v", e, f, ok)
				}
			}
		}
	}
}

// P15.2: all of a list written out: none, one, two in either order, the same one twice, one that says what another says already.
func TestAll(t *testing.T) {
	a, b, m, g := at(0, 0x200000, 1), at(0, 0x200000, 2), at(1, 0x200000, 1), global(0, 0x200000, 1)
	l := []place{{2, 0, a}, {1, 2, m}, {2, 3, b}, {2, 1, g}}
	buffer := laid(3, l...)
	for i, x := range []struct {
		l    []api.Fence
		left []place
	}{
		{nil, l},
		{[]api.Fence{}, l},
		{[]api.Fence{fence.Asid(1)}, l[2:]},
		{[]api.Fence{fence.Asid(2)}, append(slices.Clone(l[:2]), l[3])},
		{[]api.Fence{fence.Asid(1), fence.Asid(2)}, l[3:]},
		{[]api.Fence{fence.Asid(2), fence.Asid(1)}, l[3:]},
		{[]api.Fence{fence.Asid(1), fence.Asid(1)}, l[2:]},
		{[]api.Fence{fence.Of(1, 0x200000), fence.Asid(1)}, l[2:]},
		{[]api.Fence{fence.Asid(1), fence.Of(1, 0x200000)}, l[2:]},
		{[]api.Fence{fence.Addr(0x201000), fence.Of(2, 0x200000)}, []place{l[0], l[3]}},
		{[]api.Fence{fence.Of(2, 0x200000), fence.Addr(0x201000)}, []place{l[0], l[3]}},
		{[]api.Fence{fence.Asid(9), fence.Addr(0), fence.Of(1, 1<<40)}, l},
		{[]api.Fence{fence.Asid(9), fence.Addr(0x3fffff), fence.Addr(0)}, []place{l[0], l[2], l[3]}},
		{[]api.Fence{fence.Addr(0), {}}, nil},
		{[]api.Fence{{}, fence.Addr(0)}, nil},
		{[]api.Fence{{}, {}}, nil},
	} {
		if got := fence.All(buffer, x.l); !like(got, laid(3, x.left...)) {
			t.Errorf("%d: All(%+v): %+v", i, x.l, got)
		}
	}
	for _, l := range [][]api.Fence{nil, {{}}, {fence.Asid(1), fence.Addr(0)}} {
		if got := fence.All(api.Tlb{}, l); len(got.Sets) != 0 {
			t.Errorf("All(%+v) of no sets: %+v", l, got)
		}
	}
}

// P15.2, P15.3: two fences at a time, in either order, one, and the same one twice: as Do, fence by fence.
func TestAllPairs(t *testing.T) {
	l := fences()
	for _, sets := range []int{0, 1, 3, 16} {
		for n, b := range filled(sets) {
			if n%9 != 0 {
				continue
			}
			for i, f := range l {
				if got := fence.All(b, []api.Fence{f}); !like(got, fence.Do(b, f)) {
					t.Fatalf("All of %+v, of %d sets: %+v", f, sets, got)
				}
				if got := fence.All(b, []api.Fence{f, f}); !like(got, rest(b, f)) {
					t.Fatalf("All of %+v twice, of %d sets: %+v", f, sets, got)
				}
				for k := i % 17; k < len(l); k += 17 {
					g := l[k]
					want, one, two := rest(b, f, g), fence.All(b, []api.Fence{f, g}), fence.All(b, []api.Fence{g, f})
					if !like(one, want) || !like(two, want) || !like(fence.Do(fence.Do(b, f), g), want) {
						t.Fatalf("All of %+v, %+v, of %d sets: %+v, the other way round %+v, not %+v", f, g, sets, one, two, want)
					}
				}
			}
		}
	}
}

// P15.2, P15.3: lists of any length, forwards and backwards, and from the middle on.
func TestAllLong(t *testing.T) {
	every := slices.DeleteFunc(fences(), func(f api.Fence) bool { return !f.HasAddr })
	for _, sets := range []int{0, 1, 3, 16} {
		b := full(sets)
		for n := range len(every) {
			l := slices.Clone(every[:n])
			want := rest(b, l...)
			back := slices.Clone(l)
			slices.Reverse(back)
			turned := slices.Concat(l[n/2:], l[:n/2])
			for _, l := range [][]api.Fence{l, back, turned} {
				if got := fence.All(b, l); !like(got, want) {
					t.Fatalf("All of %d fences, of %d sets: %+v, not %+v", n, sets, got, want)
				}
			}
		}
	}
}

// calls are ways to have a buffer answered of another one and two fences.
var calls = map[string]func(b api.Tlb, f, g api.Fence) api.Tlb{
	"Do":   func(b api.Tlb, f, g api.Fence) api.Tlb { return fence.Do(b, f) },
	"None": func(b api.Tlb, f, g api.Fence) api.Tlb { return fence.All(b, nil) },
	"One":  func(b api.Tlb, f, g api.Fence) api.Tlb { return fence.All(b, []api.Fence{f}) },
	"Two":  func(b api.Tlb, f, g api.Fence) api.Tlb { return fence.All(b, []api.Fence{f, g}) },
}

// spoil writes into all sets of a buffer, and into the room behind them.
func spoil(b api.Tlb) {
	room := b.Sets[:cap(b.Sets)]
	for i := range room {
		room[i] = api.Set{Tree: 99, Ways: [ways]api.Entry{{Asid: 77}, {Asid: 77}, {Asid: 77}, {Asid: 77}}}
	}
}

// P15.4: what is handed in is as it was behind each call, way by way, the room behind the list included; what is answered shares no cells with it, be something named or nothing.
func TestStays(t *testing.T) {
	l := fences()
	for name, call := range calls {
		for _, sets := range []int{0, 1, 2, 3, 16} {
			for i, f := range l {
				b := full(sets + 1)
				b.Sets = b.Sets[:sets]
				whole := api.Tlb{Sets: b.Sets[:cap(b.Sets)]}
				was := copied(whole)
				got := call(b, f, l[(i+7)%len(l)])
				if !like(whole, was) {
					t.Fatalf("%s by %+v of %d sets changes what is handed in", name, f, sets)
				}
				spoil(got)
				if !like(whole, was) {
					t.Fatalf("%s by %+v of %d sets shares cells with what is handed in", name, f, sets)
				}
			}
		}
	}
}

// P15.4: two answers of one call share nothing.
func TestApart(t *testing.T) {
	l := fences()
	for name, call := range calls {
		for i, f := range l {
			b, g := full(3), l[(i+7)%len(l)]
			one, two := call(b, f, g), call(b, f, g)
			was := copied(two)
			if !like(one, two) {
				t.Fatalf("%s by %+v: %+v and %+v", name, f, one, two)
			}
			spoil(one)
			if !like(two, was) {
				t.Fatalf("%s by %+v: two answers share cells", name, f)
			}
		}
	}
}

// P15.4: the list of fences that is handed in is as it was, the room behind it included.
func TestListStays(t *testing.T) {
	for n := range 40 {
		room := fences()[:40]
		was := slices.Clone(room)
		fence.All(full(3), room[:n])
		if !slices.Equal(room, was) {
			t.Fatalf("All of %d fences changes the list", n)
		}
	}
}

// The chapter's example: behind Asid(1) entries of all spaces stay, also such as were brought in for the number 1.
func TestExamples(t *testing.T) {
	b, _ := tlb.New(1)
	b = tlb.Put(b, at(0, 0x1000, 1), -1)
	b = tlb.Put(b, global(0, 0x2000, 1), -1)
	b = tlb.Put(b, at(0, 0x3000, 2), -1)
	got := fence.Do(b, fence.Asid(1))
	if l := tlb.All(got); len(l) != 2 || l[0] != global(0, 0x2000, 1) || l[1] != at(0, 0x3000, 2) {
		t.Errorf("behind Asid(1): %+v", l)
	}
}

// Of buffers that aren't right, and entries that may not be, nothing is promised but that every call ends, and none panics.
func TestNoPanic(t *testing.T) {
	odd := []api.Entry{{}, {Asid: 1, Vpn: all}, {Valid: true, Vpn: all, Ppn: all, Asid: all}, {Valid: true, Global: true, Vpn: 1 << 27}}
	for _, level := range []int{-1, 3, 4, 7, 64, -8, 1 << 32, math.MinInt, math.MaxInt, math.MaxInt / 9, math.MinInt / 9} {
		odd = append(odd, api.Entry{Level: level, Vpn: 5}, api.Entry{Valid: true, Level: level, Vpn: all})
	}
	for _, sets := range []int{0, 1, 3, 16, 17, 40} {
		b := laid(sets)
		for i := range b.Sets {
			b.Sets[i] = api.Set{Tree: uint8(i * 77), Ways: [ways]api.Entry{odd[i%len(odd)], odd[i*3%len(odd)], odd[i*5%len(odd)], odd[(i+7)%len(odd)]}}
		}
		for _, f := range fences() {
			fence.Do(b, f)
			for _, e := range odd {
				fence.Names(f, e)
			}
		}
		fence.All(b, fences())
	}
}
