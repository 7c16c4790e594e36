package hart_test

import (
	"math"
	"slices"
	"testing"

	"atlas/api"
	"atlas/hart"
	"atlas/mem"
	"atlas/tlb"
)

const (
	all  = ^uint64(0)
	ways = 4
)

// The bits of an entry's word, told as numbers.
const (
	v = 1
	r = 2
	w = 4
	x = 8
	u = 0x10
	g = 0x20
	a = 0x40
	d = 0x80
)

// Sorts of faults, as they are told here.
const (
	none = iota
	odd
	access
	page
)

var (
	kinds = []int{api.Fetch, api.Load, api.Store}
	// lengths are the sizes that are, and levels the bytes of a page.
	lengths = []int{1, 2, 4, 8}
	levels  = []uint64{1 << 12, 1 << 21, 1 << 30}
)

// fault tells the fault of the sort, by the causes' numbers.
func fault(sort, kind int, addr uint64) api.Fault {
	causes := map[int][]int{odd: {0, 4, 6}, access: {1, 5, 7}, page: {12, 13, 15}}[sort]
	if causes == nil {
		return api.Fault{}
	}
	return api.Fault{Is: true, Cause: causes[kind], Addr: addr}
}

// how tells all privileges, with and without SUM and MXR, as harts that have nothing else.
func how() []api.Hart {
	l := []api.Hart{}
	for _, priv := range []int{api.User, api.Super} {
		for n := range 4 {
			l = append(l, api.Hart{Priv: priv, Sum: n&1 != 0, Mxr: n&2 != 0, Victim: -1})
		}
	}
	return l
}

// perm tells what an entry with these bits permits.
func perm(bits uint64) api.Perm {
	return api.Perm{R: bits&r != 0, W: bits&w != 0, X: bits&x != 0, U: bits&u != 0}
}

// permits tells whether a page of these permissions permits the hart an access of the kind.
func permits(p api.Perm, h api.Hart, kind int) bool {
	asked := []bool{p.X, p.R || h.Mxr && p.X, p.W}[kind]
	if h.Priv == api.User {
		return asked && p.U
	}
	return asked && (!p.U || kind != api.Fetch && h.Sum)
}

// canonical tells whether all bits from 38 on are alike.
func canonical(addr uint64) bool {
	return addr>>38 == 0 || addr>>38 == 1<<26-1
}

// machine is a memory told by its words that aren't 0, by their addresses, and by how many frames it has.
type machine struct {
	frames uint64
	words  map[uint64]uint64
}

// at tells where the entry of that index is in the table of that frame.
func at(table, index uint64) uint64 {
	return table*4096 + index*8
}

// word tells the word of an entry of that frame.
func word(frame, bits uint64) uint64 {
	return frame*1024 + bits
}

// address tells the canonical address of these indexes and that offset.
func address(high, mid, low, offset uint64) uint64 {
	if high > 255 {
		high += 0x3fffffe00
	}
	return ((high*512+mid)*512+low)*4096 + offset
}

// mem tells the machine's memory, with room behind the list of its cells.
func (m machine) mem() api.Mem {
	row := []api.Cell{}
	for at, val := range m.words {
		if val != 0 {
			row = append(row, api.Cell{At: at / 8, Val: val})
		}
	}
	slices.SortFunc(row, func(a, b api.Cell) int { return int(a.At) - int(b.At) })
	n := len(row)
	row = append(row, api.Cell{At: 901, Val: 0xee}, api.Cell{At: 902, Val: 0xef})
	return api.Mem{Size: m.frames * 4096, Cells: row[:n]}
}

// with tells the machine with another word.
func (m machine) with(at, val uint64) machine {
	n := map[uint64]uint64{}
	for k, old := range m.words {
		n[k] = old
	}
	n[at] = val
	return machine{m.frames, n}
}

// load tells the number of so many bytes.
func (m machine) load(at uint64, size int) uint64 {
	n := uint64(0)
	for i := range uint64(size) {
		k := at + i
		n += m.words[k-k%8] >> (k % 8 * 8) % 256 << (i * 8)
	}
	return n
}

// store tells the machine that has the number's bytes there.
func (m machine) store(at uint64, size int, val uint64) machine {
	for i := range uint64(size) {
		k := at + i
		old := m.words[k-k%8]
		m = m.with(k-k%8, old-old>>(k%8*8)%256<<(k%8*8)+val>>(i*8)%256<<(k%8*8))
	}
	return m
}

// same tells whether two memories are the same; nil and empty lists are one.
func same(m, n api.Mem) bool {
	return m.Size == n.Size && slices.Equal(m.Cells, n.Cells)
}

// like tells whether two harts are the same.
func like(h, k api.Hart) bool {
	return slices.Equal(h.Tlb.Sets, k.Tlb.Sets) && h.Satp == k.Satp && h.Priv == k.Priv && h.Sum == k.Sum && h.Mxr == k.Mxr && h.Victim == k.Victim
}

// end is where a walk ended: the sort of its fault, or the leaf's level, its word and where that is, and G of it or of a link.
type end struct {
	sort   int
	level  int
	at     uint64
	word   uint64
	global bool
}

// walked tells how a walk ends, from the table of the level on.
func (m machine) walked(table, addr uint64, level int, global bool) end {
	place := at(table, addr/levels[level]%512)
	if place >= m.frames*4096 {
		return end{sort: access}
	}
	e := m.words[place]
	frame, leaf := e>>10%(1<<44), e&(r+x) != 0
	global = global || e&g != 0
	switch {
	case e&v == 0, e&w != 0 && e&r == 0, e>>54 != 0:
		return end{sort: page}
	case !leaf && (level == 0 || e&(a+d+u) != 0), leaf && frame*4096%levels[level] != 0:
		return end{sort: page}
	case leaf:
		return end{none, level, place, e, global}
	}
	return m.walked(frame, addr, level-1, global)
}

// first tells the first address of the page of an entry.
func first(e api.Entry) uint64 {
	if e.Vpn >= 1<<26 {
		return e.Vpn*4096 - 1<<39
	}
	return e.Vpn * 4096
}

// found tells the entry that the address is to be found by, its set and its way: the least level's that has it, or none.
func found(b api.Tlb, asid, addr uint64) (api.Entry, int, int) {
	for level := range 3 {
		for i, s := range b.Sets {
			for way, e := range s.Ways {
				if e.Valid && e.Level == level && (e.Global || e.Asid == asid) && addr-addr%levels[level] == first(e) {
					return e, i, way
				}
			}
		}
	}
	return api.Entry{}, 0, 0
}

// ask is an access, as it is asked for.
type ask struct {
	kind int
	addr uint64
	size int
	val  uint64
}

// of has the ask done by the hart in the memory.
func (q ask) of(h api.Hart, m api.Mem) (api.Hart, api.Mem, api.Result) {
	return hart.Access(h, m, q.kind, q.addr, q.size, q.val)
}

// done tells the machine and the result, when the ask is led to that place.
func (m machine) done(q ask, at uint64) (machine, api.Result) {
	switch {
	case at >= m.frames*4096:
		return m, api.Result{Fault: fault(access, q.kind, q.addr)}
	case q.kind == api.Store:
		return m.store(at, q.size, q.val), api.Result{}
	}
	return m, api.Result{Val: m.load(at, q.size)}
}

// told tells what an access does, as the chapter has it, step by step.
func (m machine) told(h api.Hart, q ask) (api.Hart, machine, api.Result) {
	no := func(sort int) (api.Hart, machine, api.Result) {
		return h, m, api.Result{Fault: fault(sort, q.kind, q.addr)}
	}
	if q.addr%uint64(q.size) != 0 {
		return no(odd)
	}
	place := q.addr
	if h.Satp.Mode == 8 {
		if !canonical(q.addr) {
			return no(page)
		}
		e, set, way := found(h.Tlb, h.Satp.Asid, q.addr)
		if e.Valid && permits(e.Perm, h, q.kind) && (q.kind != api.Store || e.Dirty) {
			h.Tlb = tlb.Use(h.Tlb, set, way)
			place = e.Ppn*4096 + q.addr%levels[e.Level]
		} else {
			end := m.walked(h.Satp.Ppn, q.addr, 2, false)
			if end.sort == none && !permits(perm(end.word), h, q.kind) {
				end.sort = page
			}
			if end.sort != none {
				return no(end.sort)
			}
			end.word |= a
			if q.kind == api.Store {
				end.word |= d
			}
			m = m.with(end.at, end.word)
			h.Tlb = tlb.Put(h.Tlb, entry(end.word, end.level, q.addr, h.Satp.Asid, end.global), h.Victim)
			h.Victim = -1
			place = end.word>>10*4096 + q.addr%levels[end.level]
		}
	}
	m, res := m.done(q, place)
	return h, m, res
}

// entry tells the buffer's entry of a leaf's word.
func entry(word uint64, level int, addr, asid uint64, global bool) api.Entry {
	return api.Entry{
		Valid: true, Asid: asid, Global: global, Level: level,
		Vpn: addr % (1 << 39) / levels[level] * (levels[level] / 4096),
		Ppn: word >> 10 % (1 << 44), Perm: perm(word), Dirty: word&d != 0,
	}
}

// empty tells a buffer of that many sets, with room behind their list.
func empty(sets int) api.Tlb {
	row := make([]api.Set, sets, sets+1)
	row[:sets+1][sets].Tree = 77
	return api.Tlb{Sets: row}
}

// holding tells a buffer of that many sets into which these entries were put.
func holding(sets int, l ...api.Entry) api.Tlb {
	b := empty(sets)
	for _, e := range l {
		b = tlb.Put(b, e, -1)
	}
	return b
}

// Of the machines that are told: the number of a space, its root's frame; its tables are below the frame 16, its data from there on.
const (
	number = 3
	root   = 1
)

// on tells the hart that translates by that root, as that number.
func on(h api.Hart, b api.Tlb) api.Hart {
	h.Tlb, h.Satp = b, api.Satp{Mode: 8, Asid: number, Ppn: root}
	return h
}

// paged tells a machine of 2 GiB. Of each level one table has 128 entries with V, of all settings of the other bits: from the index 256 on in the root, from 128 on in the table 2, from 0 on in the table 3.
func paged() machine {
	m := machine{1 << 19, map[uint64]uint64{
		at(root, 0):   word(2, v),
		at(root, 1):   word(1<<18, v+r+w+x+u),
		at(root, 2):   word(1<<19, v+r+w+x+u),
		at(root, 3):   word(1<<43, v),
		at(root, 4):   word(2, v+a),
		at(root, 5):   word(1<<18+512, v+r+w+u),
		at(root, 6):   word(1<<44-1<<18, v+r+w+x+u),
		at(root, 255): word(1<<18, v+r+w+u),
		at(root, 511): word(4, v+g),
		at(2, 0):      word(3, v),
		at(2, 1):      word(512, v+r+w+u),
		at(2, 2):      word(1<<19, v+r+w+u),
		at(2, 3):      word(1<<19, v),
		at(2, 511):    word(512*511, v+r+w+x+u+g),
		at(3, 500):    word(1<<19-1, v+r+w+x+u),
		at(3, 501):    word(1<<19, v+r+w+x+u),
		at(3, 502):    word(1<<44-1, v+r+w+x+u),
		at(3, 511):    word(16, v+r+w+u),
		at(4, 511):    word(5, v),
		at(4, 510):    word(512*3, v+r+w+u),
		at(5, 511):    word(17, v+r+w+u),
		at(5, 510):    word(18, v+r+w+u+g),
	}}
	for n := range uint64(128) {
		m.words[at(root, 256+n)] = word(1<<18, v+2*n)
		m.words[at(2, 128+n)] = word(512*(1+n), v+2*n)
		m.words[at(3, n)] = word(16+n, v+2*n)
	}
	for _, frame := range []uint64{16, 17, 30, 143, 512, 512 * 3, 1 << 18, 1<<19 - 1} {
		for i := range uint64(3) {
			m.words[frame*4096+8*i] = 0xf1e2d3c4b5a69788 + frame*0x10001*(i+1)
		}
	}
	return m
}

// P16.1: a hart is right, if its buffer is, its Satp may be, and its Priv is 0 or 1; SUM, MXR and the Victim don't count.
func TestRight(t *testing.T) {
	page := api.Entry{Valid: true, Asid: 3, Vpn: 5, Ppn: 7}
	wrong := page
	wrong.Vpn = 1 << 27
	second := api.Tlb{Sets: []api.Set{{}, {Ways: [ways]api.Entry{{}, page}}}}
	first := api.Tlb{Sets: []api.Set{{Ways: [ways]api.Entry{{}, page}}, {}}}
	for i, c := range []struct {
		h    api.Hart
		want bool
	}{
		{api.Hart{}, true},
		{api.Hart{Priv: 1}, true},
		{api.Hart{Priv: 2}, false},
		{api.Hart{Priv: 3}, false},
		{api.Hart{Priv: 4}, false},
		{api.Hart{Priv: -1}, false},
		{api.Hart{Priv: math.MinInt}, false},
		{api.Hart{Priv: math.MaxInt}, false},
		{api.Hart{Priv: 1 << 32}, false},
		{api.Hart{Sum: true, Mxr: true, Victim: -1}, true},
		{api.Hart{Victim: math.MaxInt}, true},
		{api.Hart{Victim: math.MinInt, Priv: 1}, true},

		{api.Hart{Satp: api.Satp{Mode: 8}}, true},
		{api.Hart{Satp: api.Satp{Mode: 8, Asid: 1<<16 - 1, Ppn: 1<<44 - 1}, Priv: 1}, true},
		{api.Hart{Satp: api.Satp{Mode: 8, Asid: 1 << 16}}, false},
		{api.Hart{Satp: api.Satp{Mode: 8, Ppn: 1 << 44}}, false},
		{api.Hart{Satp: api.Satp{Mode: 8, Asid: all, Ppn: all}}, false},
		{api.Hart{Satp: api.Satp{Mode: 1}}, false},
		{api.Hart{Satp: api.Satp{Mode: 9}}, false},
		{api.Hart{Satp: api.Satp{Mode: 24}}, false},
		{api.Hart{Satp: api.Satp{Asid: 1}}, false},
		{api.Hart{Satp: api.Satp{Ppn: 1}}, false},
		{api.Hart{Satp: api.Satp{Mode: 8}, Priv: 2}, false},

		{api.Hart{Tlb: empty(1)}, true},
		{api.Hart{Tlb: empty(16), Satp: api.Satp{Mode: 8}, Priv: 1}, true},
		{api.Hart{Tlb: empty(17)}, false},
		{api.Hart{Tlb: second}, true},
		{api.Hart{Tlb: second, Priv: 2}, false},
		{api.Hart{Tlb: second, Satp: api.Satp{Mode: 10}}, false},
		{api.Hart{Tlb: first}, false},
		{api.Hart{Tlb: api.Tlb{Sets: []api.Set{{Tree: 7}}}}, true},
		{api.Hart{Tlb: api.Tlb{Sets: []api.Set{{Tree: 8}}}}, false},
		{api.Hart{Tlb: api.Tlb{Sets: []api.Set{{Ways: [ways]api.Entry{3: wrong}}}}}, false},
		{api.Hart{Tlb: api.Tlb{Sets: []api.Set{{Ways: [ways]api.Entry{{Asid: 1}}}}}}, false},
	} {
		if got := hart.Right(c.h); got != c.want {
			t.Errorf("%d: %+v is right: %v", i, c.h, got)
		}
	}
}

// P16.1: the way of each kind, by each privilege, SUM and MXR; nothing else of the hart counts.
func TestWay(t *testing.T) {
	for _, h := range how() {
		for _, kind := range kinds {
			want := api.Way{Kind: kind, Priv: h.Priv, Sum: h.Sum, Mxr: h.Mxr}
			if got := hart.Way(h, kind); got != want {
				t.Errorf("Way(%+v, %d): %+v", h, kind, got)
			}
			if got := hart.Way(on(h, empty(2)), kind); got != want {
				t.Errorf("Way(%+v, %d), translating: %+v", h, kind, got)
			}
		}
	}
}

// check holds an access against what is told of it, and answers what is behind it.
func check(t *testing.T, h api.Hart, m machine, q ask) (api.Hart, machine, api.Result) {
	t.Helper()
	before, was := m.mem(), h
	was.Tlb = api.Tlb{Sets: slices.Clone(h.Tlb.Sets)}
	k, n, got := q.of(h, before)
	wantHart, wantMem, want := m.told(was, q)
	if got != want {
		t.Fatalf("%+v by %+v: %+v, not %+v", q, h, got, want)
	}
	if !like(k, wantHart) || !hart.Right(k) {
		t.Fatalf("%+v by %+v: the hart behind it is %+v, not %+v", q, h, k, wantHart)
	}
	if !same(n, wantMem.mem()) || !mem.Right(n) {
		t.Fatalf("%+v by %+v: the memory behind it is %x, not %x", q, h, n.Cells, wantMem.mem().Cells)
	}
	return k, wantMem, got
}

// P16.2: each kind and size, at addresses that are multiples and at ones that aren't: those fault, whatever else might be wrong, and change nothing.
func TestOdd(t *testing.T) {
	m := paged()
	for _, h := range []api.Hart{{Priv: api.Super, Victim: 2}, on(api.Hart{Victim: 2}, empty(1))} {
		for _, base := range []uint64{0x1ff000, 0x1000000, 3 << 30, 1 << 38, 1<<63 + 0x1ff000, all - 63} {
			for _, size := range lengths {
				for _, kind := range kinds {
					for i := range uint64(32) {
						_, _, got := check(t, h, m, ask{kind, base + i, size, 0xfedcba9876543210})
						is := got.Fault.Is && got.Fault.Cause == []int{0, 4, 6}[kind]
						if is != ((base+i)%uint64(size) != 0) || is && got.Fault.Addr != base+i {
							t.Errorf("of %d bytes at %#x, %d: %+v", size, base+i, kind, got)
						}
					}
				}
			}
		}
	}
}

// P16.2: with Satp off the address is where it leads, whatever the privilege, and whatever the buffer has; nothing of the hart changes.
func TestOff(t *testing.T) {
	m := machine{2, map[uint64]uint64{0: 0x8877665544332211, 0xff8: 0xffeeddccbbaa9988, 0x1000: 0xf0f1f2f3f4f5f6f7, 0x1ff8: 0x8000000000000001}}
	b := holding(1, entry(word(1, v+r+w+x+u+d), 0, 0, 0, true), entry(word(0, v+r+w+x+u+d), 0, 0x1000, 0, true))
	for _, h := range how() {
		for _, h.Tlb = range []api.Tlb{{}, empty(1), b} {
			for i, c := range []struct {
				q    ask
				want uint64
				sort int
			}{
				{ask{api.Load, 0, 8, 0}, 0x8877665544332211, none},
				{ask{api.Fetch, 0, 4, 0}, 0x44332211, none},
				{ask{api.Load, 4, 4, 0}, 0x88776655, none},
				{ask{api.Load, 6, 2, 0}, 0x8877, none},
				{ask{api.Load, 7, 1, 0}, 0x88, none},
				{ask{api.Fetch, 0x800, 8, 0}, 0, none},
				{ask{api.Load, 0xff8, 8, 0}, 0xffeeddccbbaa9988, none},
				{ask{api.Load, 0x1fff, 1, 0}, 0x80, none},
				{ask{api.Fetch, 0x1ffe, 2, 0}, 0x8000, none},
				{ask{api.Load, 0x1ffc, 4, 0}, 0x80000000, none},
				{ask{api.Load, 0x1ff8, 8, 0}, 0x8000000000000001, none},
				{ask{api.Store, 0, 8, all}, 0, none},
				{ask{api.Store, 0x1fff, 1, 0xfe55}, 0, none},
				{ask{api.Store, 0x1ff8, 8, 0}, 0, none},
				{ask{api.Store, 0x808, 4, 1 << 32}, 0, none},
				{ask{api.Load, 0x2000, 1, 0}, 0, access},
				{ask{api.Fetch, 0x2000, 8, 0}, 0, access},
				{ask{api.Store, 0x2000, 8, all}, 0, access},
				{ask{api.Store, 1 << 39, 4, all}, 0, access},
				{ask{api.Load, 1<<63 + 8, 8, 0}, 0, access},
				{ask{api.Fetch, all, 1, 0}, 0, access},
				{ask{api.Load, all - 7, 8, 0}, 0, access},
				{ask{api.Load, 0x2001, 2, 0}, 0, odd},
			} {
				k, _, got := check(t, h, m, c.q)
				if got != (api.Result{Val: c.want, Fault: fault(c.sort, c.q.kind, c.q.addr)}) || !like(k, h) {
					t.Errorf("%d: %+v: %+v, %+v", i, c.q, got, k)
				}
			}
		}
	}
	k, n, got := hart.Access(api.Hart{Victim: 2}, m.mem(), api.Store, 0x1fff, 1, 0xfe55)
	if want := m.with(0x1ff8, 0x5500000000000001); !same(n, want.mem()) || got != (api.Result{}) || k.Victim != 2 {
		t.Errorf("stored: %x, %+v, %+v", n, got, k)
	}
	if _, n, got = hart.Access(api.Hart{}, m.mem(), api.Store, 0x1ff8, 8, 0); !same(n, m.with(0x1ff8, 0).mem()) || got != (api.Result{}) {
		t.Errorf("stored: %x, %+v", n, got)
	}
	if _, n, got = hart.Access(api.Hart{}, api.Mem{}, api.Load, 0, 8, 0); !same(n, api.Mem{}) || got.Fault != fault(access, api.Load, 0) {
		t.Errorf("of no memory: %+v, %+v", n, got)
	}
}

// P16.2: with Satp on an address that isn't canonical is a page fault, whatever the buffer and the tables have for its lower bits.
func TestNotCanonical(t *testing.T) {
	m := paged()
	b := holding(2, entry(word(16, v+r+w+x+u+d), 0, 0, number, true), entry(word(1<<18, v+r+w+x+u+d), 2, all, number, false))
	for _, h := range []api.Hart{on(api.Hart{Victim: 1}, b), on(api.Hart{Priv: api.Super, Sum: true, Victim: 1}, empty(0))} {
		for i := 38; i < 64; i++ {
			for _, low := range []uint64{0, 0x1ff008, 0xffffffc000000000, all - 7} {
				for _, addr := range []uint64{low ^ 1<<i, low ^ 1<<i ^ 1<<63 ^ 1<<39} {
					for _, kind := range kinds {
						want := api.Result{Fault: fault(page, kind, addr)}
						if k, n, got := check(t, h, m, ask{kind, addr, 8, all}); !canonical(addr) && (got != want || !like(k, h) || !same(n.mem(), m.mem())) {
							t.Errorf("%#x, %d: %+v", addr, kind, got)
						}
					}
				}
			}
		}
	}
}

// P16.2: by an entry of the buffer alone, of each level, of this number and another one, global and not, of all permissions, Dirty and not: used, where it is the number's, or global, and permits the way, and is Dirty of a store; else walked, here to a page fault.
func TestByBuffer(t *testing.T) {
	m := machine{1 << 19, map[uint64]uint64{}}
	for _, frame := range []uint64{9, 512, 1 << 18} {
		m.words[frame*4096+0xab8] = 0xfedcba9876543210 ^ frame
	}
	for level, frame := range []uint64{9, 512, 1 << 18} {
		for bits := uint64(0); bits < 256; bits += 2 {
			for _, asid := range []uint64{number, number + 1} {
				addr := address(300, 0, 0, 0xab8)
				b := holding(2, entry(word(frame, bits), level, addr, asid, bits&g != 0))
				for _, h := range how() {
					for _, kind := range kinds {
						h := on(h, b)
						k, n, got := check(t, h, m, ask{kind, addr, 8, 0x1234})
						use := (bits&g != 0 || asid == number) && permits(perm(bits), h, kind) && (kind != api.Store || bits&d != 0)
						switch {
						case !use && (got != api.Result{Fault: fault(page, kind, addr)} || !like(k, h)):
							t.Errorf("%d, %#x, %d, %d: %+v", level, bits, asid, kind, got)
						case use && kind == api.Store && n.words[frame*4096+0xab8] != 0x1234:
							t.Errorf("%d, %#x, %d: stored is %x", level, bits, asid, n.words)
						case use && kind != api.Store && got != api.Result{Val: 0xfedcba9876543210 ^ frame}:
							t.Errorf("%d, %#x, %d, %d: %+v", level, bits, asid, kind, got)
						}
					}
				}
			}
		}
	}
}

// P16.2: what the buffer tells goes ahead of the tables, and leaves these, and the Victim, as they are; the way is touched.
func TestBufferFirst(t *testing.T) {
	m := paged()
	e := entry(word(17, v+r+u), 0, 0x1ff000, number, false)
	h := on(api.Hart{Victim: 2}, api.Tlb{Sets: []api.Set{{Ways: [ways]api.Entry{{}, {}, {}, e}, Tree: 2}}})
	for _, tree := range []struct{ was, is uint8 }{{0, 0}, {1, 0}, {2, 2}, {3, 2}, {4, 0}, {7, 2}} {
		h.Tlb.Sets[0].Tree = tree.was
		k, n, got := hart.Access(h, m.mem(), api.Load, 0x1ff008, 8, 0)
		if got != (api.Result{Val: m.words[17*4096+8]}) || !same(n, m.mem()) || k.Victim != 2 || k.Tlb.Sets[0].Tree != tree.is || k.Tlb.Sets[0].Ways != h.Tlb.Sets[0].Ways {
			t.Errorf("%+v: %+v, %+v", tree, got, k)
		}
	}
	// An entry of a lesser level that doesn't permit it has the tables asked, though one of a greater level would permit it.
	great := entry(word(1<<18, v+r+w+x+u+d), 2, 0x1ff000, number, false)
	h.Tlb = holding(1, e, great)
	k, n, got := check(t, h, m, ask{api.Store, 0x1ff008, 8, 5})
	if got != (api.Result{}) || n.words[16*4096+8] != 5 || n.words[1<<30+0x1ff008] != 0 || n.words[at(3, 511)] != word(16, v+r+w+u+a+d) {
		t.Errorf("stored: %+v, %x", got, n.words[16*4096+8])
	}
	if l := tlb.All(k.Tlb); len(l) != 2 || l[0] != great || l[1] != entry(word(16, v+r+w+u+d), 0, 0x1ff000, number, false) {
		t.Errorf("behind the victim 2: %+v", l)
	}
	// Of pages twice there the least way counts.
	f := e
	f.Ppn = 16
	h.Tlb = api.Tlb{Sets: []api.Set{{Ways: [ways]api.Entry{{}, f, e, {}}}}}
	if _, _, got := check(t, h, m, ask{api.Load, 0x1ff008, 8, 0}); got.Val != m.words[16*4096+8] {
		t.Errorf("twice there: %+v", got)
	}
}

// P16.2: a store by an entry that isn't Dirty is walked, which sets D and puts the entry in anew; a load by it isn't.
func TestDirty(t *testing.T) {
	m := paged()
	h := on(api.Hart{Victim: -1}, empty(1))
	h, m, _ = check(t, h, m, ask{api.Load, 0x1ff000, 8, 0})
	clean := entry(word(16, v+r+w+u), 0, 0x1ff000, number, false)
	if l := tlb.All(h.Tlb); len(l) != 1 || l[0] != clean || m.words[at(3, 511)] != word(16, v+r+w+u+a) {
		t.Fatalf("loaded: %+v, %#x", l, m.words[at(3, 511)])
	}
	_, n, _ := check(t, h, m, ask{api.Load, 0x1ff008, 4, 0})
	if n.words[at(3, 511)] != word(16, v+r+w+u+a) {
		t.Errorf("loaded again: %#x", n.words[at(3, 511)])
	}
	k, n, _ := check(t, h, m, ask{api.Store, 0x1ff010, 2, 0x1234})
	dirty := clean
	dirty.Dirty = true
	if l := tlb.All(k.Tlb); len(l) != 1 || l[0] != dirty || n.words[at(3, 511)] != word(16, v+r+w+u+a+d) {
		t.Errorf("stored: %+v, %#x", l, n.words[at(3, 511)])
	}
	// Dirty there, nothing is walked any more, though the tables have lost all.
	lost := n.with(at(root, 0), 0)
	if _, _, got := check(t, k, lost, ask{api.Store, 0x1ff010, 2, 0x5678}); got != (api.Result{}) {
		t.Errorf("stored again: %+v", got)
	}
	if _, _, got := check(t, h, lost, ask{api.Store, 0x1ff010, 2, 0x5678}); got.Fault != fault(page, api.Store, 0x1ff010) {
		t.Errorf("not Dirty, stored: %+v", got)
	}
}

// P16.2: walks to leaves of each level, of all settings of their bits, A and D and U and G among them, by each way: what comes of them, the bits set, the entry put in.
func TestByWalk(t *testing.T) {
	m := paged()
	for n := range uint64(128) {
		for level, addr := range []uint64{address(0, 0, n, 0x8), address(0, 128+n, 0, 0x8), address(256+n, 0, 0, 0x8)} {
			for i, h := range how() {
				for _, kind := range kinds {
					h := on(h, empty(2))
					h.Victim = (i+kind)%6 - 1
					k, o, got := check(t, h, m, ask{kind, addr, lengths[i%4], 0x8000000000000001})
					bits := v + 2*n
					fine := (bits&r != 0 || bits&x != 0 && bits&w == 0) && permits(perm(bits), h, kind)
					if fine == got.Fault.Is || fine != (k.Victim == -1 && len(tlb.All(k.Tlb)) == 1) {
						t.Fatalf("the level %d, %#x, %d by %+v: %+v, %+v", level, bits, kind, h, got, k)
					}
					if !fine && (got.Fault != fault(page, kind, addr) || !same(o.mem(), m.mem()) || !like(k, h)) {
						t.Fatalf("the level %d, %#x, %d by %+v, faulting: %+v, %+v", level, bits, kind, h, got, k)
					}
				}
			}
		}
	}
}

// P16.2: leaves and faults of walks, written out: where they lead, what the memory and the buffer have behind them.
func TestWalked(t *testing.T) {
	m := paged()
	for i, c := range []struct {
		addr uint64
		sort int
		to   uint64
		leaf uint64
		e    api.Entry
	}{
		{0x1ff008, none, 16*4096 + 8, at(3, 511), api.Entry{Vpn: 511, Ppn: 16}},
		{0x1ffff8, none, 17*4096 - 8, at(3, 511), api.Entry{Vpn: 511, Ppn: 16}},
		{0x1f4ff8, none, 1<<31 - 8, at(3, 500), api.Entry{Vpn: 500, Ppn: 1<<19 - 1, Perm: api.Perm{X: true}}},
		{0x200010, none, 1<<21 + 0x10, at(2, 1), api.Entry{Level: 1, Vpn: 512, Ppn: 512}},
		{0x3ffff8, none, 1<<22 - 8, at(2, 1), api.Entry{Level: 1, Vpn: 512, Ppn: 512}},
		{0x3fe00000, none, 511 << 21, at(2, 511), api.Entry{Level: 1, Vpn: 511 * 512, Ppn: 511 * 512, Global: true, Perm: api.Perm{X: true}}},
		{0x40000000, none, 1 << 30, at(root, 1), api.Entry{Level: 2, Vpn: 1 << 18, Ppn: 1 << 18, Perm: api.Perm{X: true}}},
		{0x7ffffff8, none, 1<<31 - 8, at(root, 1), api.Entry{Level: 2, Vpn: 1 << 18, Ppn: 1 << 18, Perm: api.Perm{X: true}}},
		{0x3fc0000008, none, 1<<30 + 8, at(root, 255), api.Entry{Level: 2, Vpn: 255 << 18, Ppn: 1 << 18}},
		{0xfffffffffffff010, none, 17*4096 + 0x10, at(5, 511), api.Entry{Vpn: 1<<27 - 1, Ppn: 17, Global: true}},
		{0xffffffffffffe000, none, 18 * 4096, at(5, 510), api.Entry{Vpn: 1<<27 - 2, Ppn: 18, Global: true}},
		{0xffffffffffc00008, none, 512*3*4096 + 8, at(4, 510), api.Entry{Level: 1, Vpn: 1<<27 - 1024, Ppn: 512 * 3, Global: true}},

		{0x1f5008, access, 0, at(3, 501), api.Entry{Vpn: 501, Ppn: 1 << 19, Perm: api.Perm{X: true}}},
		{0x1f6ff8, access, 0, at(3, 502), api.Entry{Vpn: 502, Ppn: 1<<44 - 1, Perm: api.Perm{X: true}}},
		{0x400000, access, 0, at(2, 2), api.Entry{Level: 1, Vpn: 1024, Ppn: 1 << 19}},
		{0x80000008, access, 0, at(root, 2), api.Entry{Level: 2, Vpn: 2 << 18, Ppn: 1 << 19, Perm: api.Perm{X: true}}},
		{0x1bffffff8, access, 0, at(root, 6), api.Entry{Level: 2, Vpn: 6 << 18, Ppn: 1<<44 - 1<<18, Perm: api.Perm{X: true}}},

		{0xc0000000, access, 0, 0, api.Entry{}},
		{0x600000, access, 0, 0, api.Entry{}},
		{0x100000000, page, 0, 0, api.Entry{}},
		{0x140000000, page, 0, 0, api.Entry{}},
		{0x1000000, page, 0, 0, api.Entry{}},
		{0xffffffc000000000, page, 0, 0, api.Entry{}},
	} {
		for _, sets := range []int{0, 1, 16} {
			for _, kind := range []int{api.Load, api.Store} {
				h := on(api.Hart{Victim: 3}, empty(sets))
				k, n, got := check(t, h, m, ask{kind, c.addr, 8, 0xf00d})
				want, dirty := m, kind == api.Store
				if c.leaf != 0 {
					want = m.with(c.leaf, m.words[c.leaf]|a)
				}
				if c.leaf != 0 && dirty {
					want = want.with(c.leaf, want.words[c.leaf]|d)
				}
				res := api.Result{Fault: fault(c.sort, kind, c.addr)}
				switch {
				case c.sort == none && dirty:
					want = want.with(c.to, 0xf00d)
				case c.sort == none:
					res.Val = m.words[c.to]
				}
				if got != res || !same(n.mem(), want.mem()) {
					t.Errorf("%d, %d: %+v, not %+v", i, kind, got, res)
				}
				l := []api.Entry{}
				if c.leaf != 0 && sets > 0 {
					e := c.e
					e.Valid, e.Asid, e.Dirty, e.Perm.R, e.Perm.W, e.Perm.U = true, number, dirty, true, true, true
					l = append(l, e)
				}
				if !slices.Equal(tlb.All(k.Tlb), l) || c.leaf != 0 && k.Victim != -1 || c.leaf == 0 && k.Victim != 3 {
					t.Errorf("%d, %d, of %d sets: %+v, the victim %d", i, kind, sets, tlb.All(k.Tlb), k.Victim)
				}
			}
		}
	}
}

// P16.2: where memory holds nothing, what is found in the buffer is touched all the same.
func TestNoMemoryByBuffer(t *testing.T) {
	m := paged()
	h := on(api.Hart{Victim: 3}, holding(1, entry(word(1<<19, v+r+w+x+u+d), 0, 0x5000, number, false)))
	h.Tlb.Sets[0].Tree = 0
	for _, kind := range kinds {
		k, n, got := check(t, h, m, ask{kind, 0x5010, 8, 7})
		if got != (api.Result{Fault: fault(access, kind, 0x5010)}) || !same(n.mem(), m.mem()) || k.Tlb.Sets[0].Tree != 3 || k.Victim != 3 {
			t.Errorf("%d: %+v, %+v", kind, got, k)
		}
	}
}

// P16.2: a leaf goes into the way that the Victim tells, if that is one, else into the least that is free, or else the one that is to go; the Victim is -1 behind it, of no sets, too, but stays where nothing is walked, or with a fault.
func TestVictim(t *testing.T) {
	m := paged()
	far := func(n uint64) api.Entry { return entry(word(9, v+r), 0, n<<12, number, false) }
	full := api.Set{Ways: [ways]api.Entry{far(900), far(901), far(902), far(903)}, Tree: 5}
	some := api.Set{Ways: [ways]api.Entry{far(900), {}, far(902), {}}, Tree: 5}
	for _, c := range []struct {
		victim            int
		empty, some, full int
	}{
		{-1, 0, 1, 3}, {0, 0, 0, 0}, {1, 1, 1, 1}, {2, 2, 2, 2}, {3, 3, 3, 3},
		{4, 0, 1, 3}, {-2, 0, 1, 3}, {1 << 32, 0, 1, 3}, {math.MinInt, 0, 1, 3}, {math.MaxInt, 0, 1, 3},
	} {
		for i, s := range []api.Set{{}, some, full} {
			h := on(api.Hart{Victim: c.victim}, api.Tlb{Sets: []api.Set{s}})
			k, _, _ := check(t, h, m, ask{api.Load, 0x1ff000, 8, 0})
			want := s.Ways
			want[[]int{c.empty, c.some, c.full}[i]] = entry(word(16, v+r+w+u), 0, 0x1ff000, number, false)
			if k.Tlb.Sets[0].Ways != want || k.Victim != -1 {
				t.Errorf("%d, the victim %d: %+v", i, c.victim, k)
			}
			if k, _, _ = check(t, h, m, ask{api.Fetch, 0x1ff000, 8, 0}); k.Victim != c.victim || k.Tlb.Sets[0] != s {
				t.Errorf("%d, the victim %d, with a fault: %+v", i, c.victim, k)
			}
		}
		h := on(api.Hart{Victim: c.victim}, api.Tlb{})
		if k, _, _ := check(t, h, m, ask{api.Load, 0x1ff000, 8, 0}); k.Victim != -1 || len(k.Tlb.Sets) != 0 {
			t.Errorf("of no sets, the victim %d: %+v", c.victim, k)
		}
		h.Tlb = holding(2, entry(word(16, v+r+u), 0, 0x1ff000, number, false))
		if k, _, _ := check(t, h, m, ask{api.Load, 0x1ff000, 8, 0}); k.Victim != c.victim {
			t.Errorf("by the buffer, the victim %d: %+v", c.victim, k)
		}
	}
}

// P16.2: an entry that doesn't permit the way goes, when the leaf that does comes in its stead, also that of all spaces for this space's, and the other way round.
func TestInstead(t *testing.T) {
	m := paged()
	was := entry(word(99, v+r), 0, 0x1ff000, number, false)
	shared := was
	shared.Global, shared.Asid = true, 9
	other := was
	other.Asid = 9
	is := entry(word(16, v+r+w+u), 0, 0x1ff000, number, false)
	for i, c := range []struct{ was, want []api.Entry }{
		{[]api.Entry{was}, []api.Entry{is}},
		{[]api.Entry{shared}, []api.Entry{is}},
		{[]api.Entry{other}, []api.Entry{other, is}},
		{[]api.Entry{other, was}, []api.Entry{other, is}},
	} {
		k, _, got := check(t, on(api.Hart{Victim: -1}, holding(3, c.was...)), m, ask{api.Load, 0x1ff000, 8, 0})
		if got.Fault.Is || !slices.Equal(tlb.All(k.Tlb), c.want) {
			t.Errorf("%d: %+v, %+v", i, got, tlb.All(k.Tlb))
		}
	}
}

// P16.2: a store that leads to the leaf's own entry: that has A and D first, and then what is stored; a load there tells A.
func TestOwnEntry(t *testing.T) {
	m := machine{2, map[uint64]uint64{at(1, 0): word(0, v+r+w+u)}}
	h := on(api.Hart{Victim: -1}, empty(1))
	if _, n, got := check(t, h, m, ask{api.Load, 0x1000, 8, 0}); got.Val != word(0, v+r+w+u+a) || n.words[at(1, 0)] != got.Val {
		t.Errorf("loaded: %+v", got)
	}
	if _, n, _ := check(t, h, m, ask{api.Store, 0x1001, 1, 0xab}); n.words[at(1, 0)] != word(0, v+r+w+u+a+d)|0xab00 {
		t.Errorf("a byte stored: %x", n.words)
	}
	k, n, got := check(t, h, m, ask{api.Store, 0x1000, 8, 0})
	if got != (api.Result{}) || n.words[at(1, 0)] != 0 || !tlb.All(k.Tlb)[0].Dirty {
		t.Errorf("stored: %+v, %x", got, n.words)
	}
	// The buffer has it still.
	if _, _, got := check(t, k, n, ask{api.Load, 0x1000, 8, 0}); got != (api.Result{}) {
		t.Errorf("loaded: %+v", got)
	}
}

// addresses tells such as lie in pages of each level, some of which meet in the buffer's sets, and such as fault.
func addresses() []uint64 {
	l := []uint64{0x1ff000, 0x1ff008, 0x1fffff, 0x1f4000, 0x1f5000, 0x200000, 0x234568, 0x400000, 0x3fe00010, 0x40000000, 0x7ffffff8, 0x80000000, 0xc0000000, 0x1000000, 0x100000000, 0x3fc0000001,
		0xfffffffffffff000, 0xffffffffffffe008, 0xffffffffffc00004, 1 << 38, 1 << 63, 0x3fffffffff}
	for n := uint64(0); n < 128; n += 5 {
		l = append(l, address(0, 0, n, n%3*8), address(0, 128+n, n, n%4*2), address(256+n, n, n, n%2))
	}
	return l
}

// asks tells accesses, one behind the other, that come to all addresses by all kinds and sizes, and ever again to some that permit much.
func asks(many int) []ask {
	l := addresses()
	again := []uint64{address(0, 0, 7, 8), address(0, 0, 127, 0), address(0, 128+15, 5, 16), address(256+7, 0, 9, 8), 0x40000010, 0xfffffffffffff000, address(0, 0, 15, 8)}
	row := []ask{}
	for i := range many {
		q := ask{kinds[i/2%3], l[i*7%len(l)], lengths[i/5%4], uint64(i) * 0x9e3779b97f4a7c15}
		if i%3 != 0 {
			q.addr = again[(i/9+i%4)%len(again)]
		}
		if i%11 != 0 {
			q.addr -= q.addr % uint64(q.size)
		}
		row = append(row, q)
	}
	return row
}

// P16.2: accesses one behind the other, each on what those ahead of it left, held against their telling, with buffers of each number of sets, the privilege, the number and the Victim changing.
func TestOneBehindTheOther(t *testing.T) {
	for _, sets := range []int{0, 1, 2, 3, 5, 16} {
		h, m := on(api.Hart{Victim: -1}, empty(sets)), paged()
		hits, faults := 0, 0
		for i, q := range asks(1500) {
			if i%40 == 0 {
				as := how()[i/40%8]
				h.Priv, h.Sum, h.Mxr = as.Priv, as.Sum, as.Mxr
			}
			if i%90 == 0 {
				h.Satp.Asid = uint64(i / 90 % 3)
			}
			if i%7 == 0 {
				h.Victim = i/7%6 - 1
			}
			was := h
			var got api.Result
			h, m, got = check(t, h, m, q)
			if got.Fault.Is {
				faults++
			} else if e, _, _ := found(was.Tlb, was.Satp.Asid, q.addr); e.Valid && slices.Equal(tlb.All(was.Tlb), tlb.All(h.Tlb)) {
				hits++
			}
		}
		if faults < 100 || faults > 1200 || (hits < 100) != (sets == 0) {
			t.Errorf("of %d sets: %d faults, %d by the buffer", sets, faults, hits)
		}
	}
}

// P16.3: where the buffer tells no more than the tables, results and memory are those of a hart without a buffer, access by access; and it tells no more behind each of them.
func TestAsWithout(t *testing.T) {
	for _, sets := range []int{1, 2, 3, 16} {
		h, k := on(api.Hart{Victim: -1}, empty(sets)), on(api.Hart{Victim: -1}, empty(0))
		m := paged().mem()
		n := m
		for i, q := range asks(4000) {
			as := how()[i/50%8]
			h.Priv, h.Sum, h.Mxr = as.Priv, as.Sum, as.Mxr
			k.Priv, k.Sum, k.Mxr = as.Priv, as.Sum, as.Mxr
			if !hart.Agrees(h, m) {
				t.Fatalf("%d, of %d sets: more than the tables: %+v", i, sets, tlb.All(h.Tlb))
			}
			var got, want api.Result
			h, m, got = q.of(h, m)
			k, n, want = q.of(k, n)
			if got != want || !same(m, n) {
				t.Fatalf("%d, of %d sets: %+v: %+v, not %+v", i, sets, q, got, want)
			}
		}
	}
}

// P16.3: so it is by any entry of a leaf, of whatever bits, that tells no more than it: with some of its permissions, Dirty or not; and where an entry tells more, Agrees says so.
func TestAsWithoutByEntry(t *testing.T) {
	m := paged()
	agree := 0
	for n := range uint64(128) {
		for level, addr := range []uint64{address(0, 0, n, 0), address(0, 128+n, 0, 0), address(256+n, 0, 0, 0)} {
			leaf := m.walked(root, addr, 2, false)
			for bits := uint64(0); bits < 256; bits += 2 {
				if bits&(g+a) != 0 {
					continue
				}
				e := entry(word(leaf.word>>10, bits), level, addr, number, n%2 == 0)
				e.Ppn -= e.Ppn % (levels[level] / 4096)
				h := on(how()[(n+bits/2)%8], holding(1, e))
				want := leaf.sort == none && leaf.word&a != 0 && bits&d&^leaf.word == 0 && bits&(r+w+x)&^leaf.word == 0 && (bits^leaf.word)&u == 0
				if got := hart.Agrees(h, m.mem()); got != want {
					t.Fatalf("Agrees of %+v with %#x at the level %d: %v", e, leaf.word, level, got)
				}
				if !want {
					continue
				}
				agree++
				for _, kind := range kinds {
					q := ask{kind, addr + 8, 8, 77}
					bare := h
					bare.Tlb = api.Tlb{}
					_, m1, r1 := q.of(h, m.mem())
					_, m2, r2 := q.of(bare, m.mem())
					if r1 != r2 || !same(m1, m2) {
						t.Fatalf("%+v with %#x: %+v, not %+v", e, leaf.word, r1, r2)
					}
				}
			}
		}
	}
	if agree < 500 {
		t.Errorf("%d agree", agree)
	}
}

// P16.1: what an entry may tell of a leaf, and what it may not, one by one; those of other numbers don't count, global ones do.
func TestAgrees(t *testing.T) {
	m := paged()
	// Leaves of all levels, with A, with A and D, with neither.
	for _, l := range []struct{ at, bits uint64 }{
		{at(3, 511), v + r + w + u + a}, {at(3, 510), v + r + w + x + a + d}, {at(3, 509), v + r + w + u}, {at(3, 508), v + r + w + u + d},
		{at(2, 1), v + r + u + a}, {at(root, 1), v + r + x + a + d}, {at(5, 511), v + r + a}, {at(root, 255), v + r + a},
	} {
		old := m.words[l.at] >> 10
		if old == 0 {
			old = 16
		}
		m.words[l.at] = word(old, l.bits)
	}
	small := api.Entry{Valid: true, Asid: number, Vpn: 511, Ppn: 16, Perm: api.Perm{R: true, W: true, U: true}}
	dirty := api.Entry{Valid: true, Asid: number, Vpn: 510, Ppn: 16, Perm: api.Perm{R: true, W: true, X: true}, Dirty: true}
	mid := api.Entry{Valid: true, Asid: number, Level: 1, Vpn: 512, Ppn: 512, Perm: api.Perm{R: true, U: true}}
	large := api.Entry{Valid: true, Asid: number, Level: 2, Vpn: 1 << 18, Ppn: 1 << 18, Perm: api.Perm{R: true, X: true}, Dirty: true}
	high := api.Entry{Valid: true, Asid: number, Vpn: 1<<27 - 1, Ppn: 17, Perm: api.Perm{R: true}, Global: true}
	but := func(e api.Entry, change func(e *api.Entry)) api.Entry {
		change(&e)
		return e
	}
	for i, c := range []struct {
		e    api.Entry
		want bool
	}{
		{small, true}, {dirty, true}, {mid, true}, {large, true}, {high, true},
		{api.Entry{Valid: true, Asid: number, Level: 2, Vpn: 255 << 18, Ppn: 1 << 18, Perm: api.Perm{R: true}}, true},

		{but(small, func(e *api.Entry) { e.Ppn = 17 }), false},
		{but(small, func(e *api.Entry) { e.Ppn = 16 + 1<<43 }), false},
		{but(mid, func(e *api.Entry) { e.Ppn = 1024 }), false},
		{but(large, func(e *api.Entry) { e.Ppn = 0 }), false},

		{but(mid, func(e *api.Entry) { e.Level = 0 }), false},
		{but(large, func(e *api.Entry) { e.Level = 1 }), false},
		{but(large, func(e *api.Entry) { e.Level = 0 }), false},
		{but(mid, func(e *api.Entry) { e.Level, e.Vpn, e.Ppn = 2, 0, 0 }), false},
		{but(small, func(e *api.Entry) { e.Level, e.Vpn, e.Ppn = 1, 0, 0 }), false},

		{but(small, func(e *api.Entry) { e.Vpn = 505 }), false},
		{but(mid, func(e *api.Entry) { e.Vpn = 1024 * 4 }), false},
		{but(large, func(e *api.Entry) { e.Vpn = 3 << 18 }), false},

		{but(small, func(e *api.Entry) { e.Perm.R = false }), true},
		{but(small, func(e *api.Entry) { e.Perm.W = false }), true},
		{but(small, func(e *api.Entry) { e.Perm = api.Perm{U: true} }), true},
		{but(small, func(e *api.Entry) { e.Perm.X = true }), false},
		{but(small, func(e *api.Entry) { e.Perm.U = false }), false},
		{but(small, func(e *api.Entry) { e.Perm = api.Perm{} }), false},
		{but(mid, func(e *api.Entry) { e.Perm.W = true }), false},
		{but(mid, func(e *api.Entry) { e.Perm.X = true }), false},
		{but(dirty, func(e *api.Entry) { e.Perm = api.Perm{} }), true},
		{but(dirty, func(e *api.Entry) { e.Perm.U = true }), false},
		{but(large, func(e *api.Entry) { e.Perm.R = false }), true},
		{but(large, func(e *api.Entry) { e.Perm.W = true }), false},
		{but(high, func(e *api.Entry) { e.Perm.U = true }), false},

		{but(small, func(e *api.Entry) { e.Dirty = true }), false},
		{but(dirty, func(e *api.Entry) { e.Dirty = false }), true},
		{but(large, func(e *api.Entry) { e.Dirty = false }), true},
		{but(mid, func(e *api.Entry) { e.Dirty = true }), false},
		{but(small, func(e *api.Entry) { e.Vpn = 509 }), false},
		{but(small, func(e *api.Entry) { e.Vpn, e.Dirty = 509, true }), false},
		{but(small, func(e *api.Entry) { e.Vpn = 508 }), false},
		{but(small, func(e *api.Entry) { e.Vpn, e.Dirty = 508, true }), false},

		// The leaf's G isn't asked for.
		{but(small, func(e *api.Entry) { e.Global = true }), true},
		{but(high, func(e *api.Entry) { e.Global = false }), true},
		// Other numbers' entries may tell whatever they will, but global ones.
		{but(small, func(e *api.Entry) { e.Asid, e.Ppn = number+1, 17 }), true},
		{but(small, func(e *api.Entry) { e.Asid, e.Dirty = 1<<16-1, true }), true},
		{but(small, func(e *api.Entry) { e.Asid, e.Vpn = 0, 505 }), true},
		{but(small, func(e *api.Entry) { e.Asid, e.Global = number+1, true }), true},
		{but(small, func(e *api.Entry) { e.Asid, e.Global, e.Ppn = number+1, true, 17 }), false},
		{but(mid, func(e *api.Entry) { e.Asid, e.Global, e.Perm.X = 0, true, true }), false},
		{but(small, func(e *api.Entry) { e.Asid, e.Global, e.Vpn = 0, true, 505 }), false},
	} {
		for _, sets := range []int{1, 3, 16} {
			h := on(api.Hart{Priv: i % 2, Sum: i%3 == 0, Mxr: i%5 == 0}, holding(sets, c.e))
			if got := hart.Agrees(h, m.mem()); !hart.Right(h) || got != c.want {
				t.Errorf("%d, of %d sets: %+v: %v", i, sets, c.e, got)
			}
			// One that doesn't hold suffices, wherever it stands.
			for _, o := range []api.Entry{small, dirty, mid, large, high} {
				if o.Level == c.e.Level && o.Vpn == c.e.Vpn {
					continue
				}
				for _, l := range [][]api.Entry{{o, c.e}, {c.e, o}} {
					h.Tlb = holding(sets, l...)
					if got := hart.Agrees(h, m.mem()); got != c.want {
						t.Errorf("%d, of %d sets: %+v: %v", i, sets, l, got)
					}
				}
			}
		}
	}
}

// P16.1: an empty buffer tells no more, whatever the tables, of none and of many sets; one filled by accesses doesn't either, till the tables change.
func TestAgreesFilled(t *testing.T) {
	for _, m := range []api.Mem{{}, paged().mem()} {
		for _, sets := range []int{0, 1, 16} {
			for _, ppn := range []uint64{0, root, 1<<44 - 1} {
				h := api.Hart{Tlb: empty(sets), Satp: api.Satp{Mode: 8, Ppn: ppn}}
				if !hart.Agrees(h, m) {
					t.Errorf("an empty buffer of %d sets tells more", sets)
				}
			}
		}
	}
	for _, sets := range []int{1, 3, 16} {
		h, m := on(api.Hart{Victim: -1}, empty(sets)), paged()
		for _, q := range []ask{{api.Load, 0x1ff000, 8, 0}, {api.Store, 0x200000, 8, 1}, {api.Fetch, 0x40000000, 4, 0}, {api.Load, 0xfffffffffffff000, 1, 0}} {
			h, m, _ = check(t, h, m, q)
		}
		if len(tlb.All(h.Tlb)) != 4 || !hart.Agrees(h, m.mem()) {
			t.Errorf("of %d sets, filled: %+v", sets, tlb.All(h.Tlb))
		}
		for i, c := range []struct {
			at, val uint64
			want    bool
		}{
			{at(3, 511), word(16, v+r+w+u+a), true},
			{at(3, 511), word(16, v+r+w+x+u+g+a+d) + 0x300, true},
			{at(3, 511), word(16, v+r+w+u), false},
			{at(3, 511), word(16, v+r+u+a), false},
			{at(3, 511), word(16, v+r+w+a), false},
			{at(3, 511), word(17, v+r+w+u+a), false},
			{at(3, 511), word(16, r+w+u+a), false},
			{at(3, 511), 0, false},
			{at(3, 511), word(16, v), false},
			{at(3, 511), word(16, v+r+w+u+a) + 1<<54, false},
			{at(2, 1), word(512, v+r+w+u+a), false},
			{at(2, 1), word(512, v+r+w+u+d), false},
			{at(2, 1), word(512, v+r+w+x+u+a+d), true},
			{at(2, 1), word(7, v), false},
			{at(2, 1), word(513, v+r+w+u+a+d), false},
			{at(root, 1), word(1<<18, v+r+w+x+u+a), true},
			{at(root, 1), word(1<<18, v+r+w+u+a), false},
			{at(root, 1), word(1<<18, v+x+u+a), false},
			{at(root, 1), word(1<<43, v), false},
			{at(root, 0), 0, false},
			{at(2, 0), word(1<<43, v), false},
			{at(5, 511), word(17, v+r+w+u+a+g), true},
			{at(4, 511), 0, false},
			{at(root, 511), word(4, v), true},
		} {
			if got := hart.Agrees(h, m.with(c.at, c.val).mem()); got != c.want {
				t.Errorf("%d, of %d sets: %v", i, sets, got)
			}
		}
		// By another root, or as another number, the same buffer: of that number nothing but what is global counts.
		k := h
		k.Satp.Ppn = 4
		if hart.Agrees(k, m.mem()) {
			t.Errorf("of %d sets: by another root it agrees", sets)
		}
		k = h
		k.Satp.Asid++
		if !hart.Agrees(k, m.with(at(root, 0), 0).mem()) || hart.Agrees(k, m.with(at(root, 511), 0).mem()) {
			t.Errorf("of %d sets: as another number", sets)
		}
	}
}

// calls are accesses: by the buffer, by walks, by neither, with faults ahead of and behind what changes.
func calls() []struct {
	what string
	h    api.Hart
	q    ask
} {
	b := holding(3, entry(word(17, v+r+w+u+d), 0, 0x5000, number, false), entry(word(1<<19, v+r+u), 0, 0x6000, number, false), entry(word(16, v+r+w+u), 0, 0x1ff000, number, false))
	// By these trees a touch of any way that is filled changes its set.
	for i := range b.Sets {
		b.Sets[i].Tree = 0
	}
	// The room behind the list is written full, so that it is seen when it changes.
	b.Sets = append(b.Sets, api.Set{Tree: 99}, api.Set{Tree: 98})[:3]
	user, off := on(api.Hart{Victim: 2}, b), api.Hart{Tlb: b, Victim: 2}
	return []struct {
		what string
		h    api.Hart
		q    ask
	}{
		{"off, loaded", off, ask{api.Load, 16 * 4096, 8, 0}},
		{"off, stored", off, ask{api.Store, 16 * 4096, 8, 5}},
		{"off, nothing stored there", off, ask{api.Store, 16 * 4096, 8, 0}},
		{"off, no memory", off, ask{api.Store, 1 << 31, 8, 5}},
		{"by the buffer, loaded", user, ask{api.Load, 0x5008, 8, 0}},
		{"by the buffer, stored", user, ask{api.Store, 0x5008, 8, 5}},
		{"by the buffer, no memory", user, ask{api.Load, 0x6000, 8, 0}},
		{"not Dirty, stored", user, ask{api.Store, 0x1ff000, 8, 5}},
		{"walked, loaded", user, ask{api.Load, 0x200000, 8, 0}},
		{"walked, stored", user, ask{api.Store, 0x200000, 8, 5}},
		{"walked, fetched", user, ask{api.Fetch, 0x40000000, 2, 0}},
		{"walked, no memory", user, ask{api.Store, 0x80000000, 8, 5}},
		{"A and D are there already", user, ask{api.Load, address(0, 0, 127, 0), 8, 0}},
		{"no page", user, ask{api.Store, 0x1000000, 8, 5}},
		{"no table", user, ask{api.Load, 0xc0000000, 8, 5}},
		{"not permitted", user, ask{api.Fetch, 0x1ff000, 8, 5}},
		{"not canonical", user, ask{api.Load, 1 << 50, 8, 5}},
		{"odd", user, ask{api.Load, 0x5001, 8, 5}},
		{"odd, off", off, ask{api.Store, 1, 2, 5}},
	}
}

// whole tells all cells and all sets there are, the room behind the lists included, copied.
func whole(h api.Hart, m api.Mem) ([]api.Set, []api.Cell) {
	return slices.Clone(h.Tlb.Sets[:cap(h.Tlb.Sets)]), slices.Clone(m.Cells[:cap(m.Cells)])
}

// spoil writes into all sets and cells, and into the room behind them.
func spoil(h api.Hart, m api.Mem) {
	for i := range h.Tlb.Sets[:cap(h.Tlb.Sets)] {
		h.Tlb.Sets[:cap(h.Tlb.Sets)][i] = api.Set{Tree: 66, Ways: [ways]api.Entry{{Asid: 77}, {Vpn: 77}, {Ppn: 77}, {Level: 77}}}
	}
	for i := range m.Cells[:cap(m.Cells)] {
		m.Cells[:cap(m.Cells)][i] = api.Cell{At: 77, Val: 77}
	}
}

// P16.4: what is handed in is as it was behind each call, the room behind the lists included; so it is of Agrees, Right and Way.
func TestHandedInStays(t *testing.T) {
	for _, c := range calls() {
		m := paged().mem()
		was := c.h
		sets, cells := whole(c.h, m)
		c.q.of(c.h, m)
		hart.Agrees(c.h, m)
		hart.Right(c.h)
		hart.Way(c.h, c.q.kind)
		nowSets, nowCells := whole(c.h, m)
		if !slices.Equal(sets, nowSets) || !slices.Equal(cells, nowCells) || !like(was, c.h) {
			t.Errorf("%s: it left %+v, %x", c.what, nowSets, nowCells)
		}
	}
}

// P16.4: what is answered shares no cells with what was handed in, nor with another answer, where it changed.
func TestAnswersAreNew(t *testing.T) {
	changes := 0
	for _, c := range calls() {
		m := paged().mem()
		sets, cells := whole(c.h, m)
		h, n, _ := c.q.of(c.h, m)
		k, o, _ := c.q.of(c.h, m)
		otherSets, otherCells := whole(k, o)
		// What stays as it was may be shared: just the rest is written into.
		if slices.Equal(h.Tlb.Sets, c.h.Tlb.Sets) {
			h.Tlb = api.Tlb{}
		} else {
			changes++
		}
		if same(n, m) {
			n = api.Mem{}
		} else {
			changes++
		}
		spoil(h, n)
		nowSets, nowCells := whole(c.h, m)
		if !slices.Equal(sets, nowSets) || !slices.Equal(cells, nowCells) {
			t.Errorf("%s: what was handed in is %+v, %x", c.what, nowSets, nowCells)
		}
		if nowSets, nowCells = whole(k, o); !slices.Equal(otherSets, nowSets) || !slices.Equal(otherCells, nowCells) {
			t.Errorf("%s: another answer is %+v, %x", c.what, nowSets, nowCells)
		}
	}
	if changes != 17 {
		t.Errorf("%d changes", changes)
	}
}

// P16.4: nothing is kept: when what was handed in has changed, the next call sees it as it is.
func TestNothingIsKept(t *testing.T) {
	for _, c := range calls() {
		m := paged().mem()
		_, _, before := c.q.of(c.h, m)
		c.q.of(on(api.Hart{Priv: api.Super}, empty(0)), api.Mem{Size: 4096})
		if _, _, got := c.q.of(c.h, m); got != before {
			t.Errorf("%s: %+v, and then %+v", c.what, before, got)
		}
	}
	m := machine{2, map[uint64]uint64{8: 5}}.mem()
	if _, _, got := hart.Access(api.Hart{}, m, api.Load, 8, 8, 0); got.Val != 5 {
		t.Errorf("loaded: %+v", got)
	}
	m.Cells[0].Val = 6
	if _, _, got := hart.Access(api.Hart{}, m, api.Load, 8, 8, 0); got.Val != 6 {
		t.Errorf("loaded, when it has changed: %+v", got)
	}
}

// Nil and empty lists are one, handed in.
func TestNilAndEmpty(t *testing.T) {
	for _, sets := range [][]api.Set{nil, {}} {
		for _, cells := range [][]api.Cell{nil, {}} {
			h, m := on(api.Hart{Victim: 1}, api.Tlb{Sets: sets}), api.Mem{Size: 4 * 4096, Cells: cells}
			k, n, got := hart.Access(h, m, api.Load, 0x1000, 8, 0)
			if got != (api.Result{Fault: fault(page, api.Load, 0x1000)}) || !like(k, h) || !same(n, m) || !hart.Right(h) || !hart.Agrees(h, m) {
				t.Errorf("%v, %v: %+v, %+v, %+v", sets, cells, k, n, got)
			}
			h.Satp = api.Satp{}
			if _, n, got = hart.Access(h, m, api.Store, 0x1000, 2, 1); got != (api.Result{}) || len(n.Cells) != 1 {
				t.Errorf("%v, %v: %+v, %+v", sets, cells, n, got)
			}
		}
	}
}

// The chapter's example: with Satp off a load of 8 at 0 tells the first word.
func TestExample(t *testing.T) {
	m := machine{1, map[uint64]uint64{0: 0xfedcba9876543210, 8: 1}}.mem()
	if _, _, got := hart.Access(api.Hart{}, m, api.Load, 0, 8, 0); got != (api.Result{Val: 0xfedcba9876543210}) {
		t.Errorf("loaded: %+v", got)
	}
}

// Of harts and memories that aren't right, of kinds and sizes that are none nothing is promised but that every call ends, and none panics.
func TestNoPanic(t *testing.T) {
	strange := []int{math.MinInt, -1 << 32, -8, -1, 0, 1, 2, 3, 4, 5, 7, 8, 16, 64, 1 << 32, math.MaxInt}
	odd := []api.Entry{{Asid: 1, Vpn: all}, {Valid: true, Vpn: all, Ppn: all, Asid: all, Global: true}, {Valid: true, Level: -1, Global: true}, {Valid: true, Level: 3, Global: true}, {Valid: true, Level: math.MinInt, Global: true}, {Valid: true, Level: math.MaxInt, Global: true}}
	memories := []api.Mem{{}, {Size: 5}, {Size: all, Cells: []api.Cell{{At: all, Val: all}, {At: 0, Val: word(1, v+r)}, {At: 512, Val: word(0, v+r+w+x+u)}}}, paged().mem()}
	for _, n := range strange {
		for i, o := range strange {
			for _, sets := range []int{0, 1, 3, 17} {
				b := empty(sets)
				for k := range b.Sets {
					b.Sets[k] = api.Set{Tree: uint8(k * 77), Ways: [ways]api.Entry{odd[(i+k)%6], odd[(i+1)%6], odd[(i+2)%6], odd[(i+3)%6]}}
				}
				for k, m := range memories {
					h := api.Hart{Tlb: b, Satp: api.Satp{Mode: []uint64{0, 8, all, 8}[(i+sets)%4], Ppn: []uint64{root, all, 1 << 44, 0}[k], Asid: all}, Priv: o, Victim: n}
					for _, addr := range []uint64{0, 8, 0x1ff000, all - 7, 1 << 50} {
						hart.Access(h, m, n, addr, o, all)
						hart.Access(h, m, o, addr, n, all)
						h.Priv = api.User
						hart.Access(h, m, i%3, addr, o, all)
						hart.Access(h, m, n, addr, 8, all)
						hart.Access(h, m, i%3, addr, 8, all)
					}
					hart.Agrees(h, m)
					hart.Right(h)
					hart.Way(h, n)
				}
			}
		}
	}
}
