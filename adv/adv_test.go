package adv_test

import (
	"math"
	"slices"
	"testing"

	"atlas/adv"
	"atlas/api"
	"atlas/hart"
	"atlas/mem"
	"atlas/tlb"
	"atlas/walk"
)

const (
	all  = ^uint64(0)
	ways = 4
)

// The bits of an entry's word, told as numbers.
const (
	v = 1
	r = 2
	w = 4
	x = 8
	u = 0x10
	g = 0x20
	a = 0x40
	d = 0x80
)

// Of the machines that are told: the number of a space, its root's frame; its tables are below the frame 16, its data from there on.
const (
	number = 3
	root   = 1
	data   = 16
)

var (
	kinds = []int{api.Fetch, api.Load, api.Store}
	// many are the numbers of sets, levels the bytes of a page.
	many   = []int{0, 1, 3, 16}
	levels = []uint64{1 << 12, 1 << 21, 1 << 30}
	// victims are ways, and such as are none.
	victims = []int{-1, 0, 1, 2, 3, 4, -2, 1 << 32, math.MinInt, math.MaxInt}
)

// how tells all privileges, with and without SUM and MXR, as harts that have nothing else.
func how() []api.Hart {
	l := []api.Hart{}
	for _, priv := range []int{api.User, api.Super} {
		for n := range 4 {
			l = append(l, api.Hart{Priv: priv, Sum: n&1 != 0, Mxr: n&2 != 0, Victim: -1})
		}
	}
	return l
}

// perm tells what an entry with these bits permits.
func perm(bits uint64) api.Perm {
	return api.Perm{R: bits&r != 0, W: bits&w != 0, X: bits&x != 0, U: bits&u != 0}
}

// permits tells whether a page with these bits permits the hart an access of the kind.
func permits(bits uint64, h api.Hart, kind int) bool {
	asked := []bool{bits&x != 0, bits&r != 0 || h.Mxr && bits&x != 0, bits&w != 0}[kind]
	if h.Priv == api.User {
		return asked && bits&u != 0
	}
	return asked && (bits&u == 0 || kind != api.Fetch && h.Sum)
}

// canonical tells whether all bits from 38 on are alike.
func canonical(addr uint64) bool {
	return addr>>38 == 0 || addr>>38 == 1<<26-1
}

// machine is a memory told by its words that aren't 0, by their addresses, and by how many frames it has.
type machine struct {
	frames uint64
	words  map[uint64]uint64
}

// at tells where the entry of that index is in the table of that frame.
func at(table, index uint64) uint64 {
	return table*4096 + index*8
}

// word tells the word of an entry of that frame.
func word(frame, bits uint64) uint64 {
	return frame*1024 + bits
}

// address tells the canonical address of these indexes and that offset.
func address(high, mid, low, offset uint64) uint64 {
	if high > 255 {
		high += 0x3fffffe00
	}
	return ((high*512+mid)*512+low)*4096 + offset
}

// mem tells the machine's memory, with room behind the list of its cells.
func (m machine) mem() api.Mem {
	row := []api.Cell{}
	for at, val := range m.words {
		if val != 0 {
			row = append(row, api.Cell{At: at / 8, Val: val})
		}
	}
	slices.SortFunc(row, func(a, b api.Cell) int { return int(a.At) - int(b.At) })
	n := len(row)
	row = append(row, api.Cell{At: 901, Val: 0xee}, api.Cell{At: 902, Val: 0xef})
	return api.Mem{Size: m.frames * 4096, Cells: row[:n]}
}

// read tells the machine of a memory.
func read(m api.Mem) machine {
	words := map[uint64]uint64{}
	for _, c := range m.Cells {
		words[c.At*8] = c.Val
	}
	return machine{m.Size / 4096, words}
}

// with tells the machine with another word.
func (m machine) with(at, val uint64) machine {
	n := map[uint64]uint64{}
	for k, old := range m.words {
		n[k] = old
	}
	n[at] = val
	return machine{m.frames, n}
}

// same tells whether two memories are the same; nil and empty lists are one.
func same(m, n api.Mem) bool {
	return m.Size == n.Size && slices.Equal(m.Cells, n.Cells)
}

// like tells whether two harts are the same.
func like(h, k api.Hart) bool {
	return slices.Equal(h.Tlb.Sets, k.Tlb.Sets) && h.Satp == k.Satp && h.Priv == k.Priv && h.Sum == k.Sum && h.Mxr == k.Mxr && h.Victim == k.Victim
}

// end is where a look ended: whether at a leaf, its level, its word and where that is, and G of it or of a link.
type end struct {
	ok     bool
	level  int
	at     uint64
	word   uint64
	global bool
}

// looked tells how a look ends, from the table of the level on.
func (m machine) looked(table, addr uint64, level int, global bool) end {
	place := at(table, addr/levels[level]%512)
	if place >= m.frames*4096 {
		return end{}
	}
	e := m.words[place]
	frame, leaf := e>>10%(1<<44), e&(r+x) != 0
	global = global || e&g != 0
	switch {
	case e&v == 0, e&w != 0 && e&r == 0, e>>54 != 0:
		return end{}
	case !leaf && (level == 0 || e&(a+d+u) != 0), leaf && frame*4096%levels[level] != 0:
		return end{}
	case leaf:
		return end{true, level, place, e, global}
	}
	return m.looked(frame, addr, level-1, global)
}

// entry tells the buffer's entry of a leaf's word.
func entry(word uint64, level int, addr, asid uint64, global bool) api.Entry {
	return api.Entry{
		Valid: true, Asid: asid, Global: global, Level: level,
		Vpn: addr % (1 << 39) / levels[level] * (levels[level] / 4096),
		Ppn: word >> 10 % (1 << 44), Perm: perm(word), Dirty: word&d != 0,
	}
}

// put tells the buffer into which the entry was put, by that victim.
func put(b api.Tlb, e api.Entry, victim int) api.Tlb {
	if len(b.Sets) == 0 {
		return b
	}
	b.Sets = slices.Clone(b.Sets)
	s := &b.Sets[e.Vpn*4096/levels[e.Level]%uint64(len(b.Sets))]
	free := -1
	for way := ways - 1; way >= 0; way-- {
		f := s.Ways[way]
		if f.Valid && f.Level == e.Level && f.Vpn == e.Vpn && (f.Global || e.Global || f.Asid == e.Asid) {
			s.Ways[way] = api.Entry{}
		}
		if !s.Ways[way].Valid {
			free = way
		}
	}
	switch {
	case victim >= 0 && victim < ways:
	case free >= 0:
		victim = free
	default:
		victim = []int{0, 2, 1, 2, 0, 3, 1, 3}[s.Tree]
	}
	s.Ways[victim] = e
	s.Tree = [][]uint8{{3, 3, 3, 3, 7, 7, 7, 7}, {1, 1, 1, 1, 5, 5, 5, 5}, {4, 4, 6, 6, 4, 4, 6, 6}, {0, 0, 2, 2, 0, 0, 2, 2}}[victim][s.Tree]
	return b
}

// brought tells what is behind a translation that is brought in, as the chapter has it.
func (m machine) brought(h api.Hart, addr uint64) (api.Hart, machine, bool) {
	if h.Satp.Mode != 8 || !canonical(addr) {
		return h, m, false
	}
	e := m.looked(h.Satp.Ppn, addr, 2, false)
	if !e.ok {
		return h, m, false
	}
	h.Tlb = put(h.Tlb, entry(e.word, e.level, addr, h.Satp.Asid, e.global), h.Victim)
	h.Victim = -1
	return h, m.with(e.at, e.word|a), true
}

// empty tells a buffer of that many sets, with room behind their list.
func empty(sets int) api.Tlb {
	row := make([]api.Set, sets, sets+1)
	row[:sets+1][sets].Tree = 77
	return api.Tlb{Sets: row}
}

// holding tells a buffer of that many sets into which these entries were put.
func holding(sets int, l ...api.Entry) api.Tlb {
	b := empty(sets)
	for _, e := range l {
		b = put(b, e, -1)
	}
	return b
}

// filled tells a buffer of that many sets, of which each has an entry in each way that is so, of pages far off, by other trees.
func filled(sets int, so func(set, way int) bool) api.Tlb {
	b := empty(sets)
	for i := range b.Sets {
		b.Sets[i].Tree = uint8(i*3+5) % 8
		for way := range ways {
			if so(i, way) {
				n := uint64(1<<20 + 5*i + sets*100*(way+1))
				n -= n%uint64(sets) - uint64(i)
				b.Sets[i].Ways[way] = api.Entry{Valid: true, Asid: number + uint64(way)%2, Vpn: n, Ppn: 40 + n%7, Perm: api.Perm{R: true, U: way > 1}, Dirty: way == 2}
			}
		}
	}
	return b
}

// buffers tells buffers of each number of sets: empty, with some ways empty, and with none.
func buffers() []api.Tlb {
	l := []api.Tlb{}
	for _, sets := range many {
		l = append(l, empty(sets), filled(sets, func(set, way int) bool { return (set+way)%2 == 0 }), filled(sets, func(set, way int) bool { return true }))
	}
	return l
}

// on tells the hart that translates by that root, as that number.
func on(h api.Hart, b api.Tlb) api.Hart {
	h.Tlb, h.Satp = b, api.Satp{Mode: 8, Asid: number, Ppn: root}
	return h
}

// paged tells a machine of 2 GiB. Of each level one table has 128 entries with V, of all settings of the other bits, and of Rsw: from the index 256 on in the root, from 128 on in the table 2, from 0 on in the table 3.
func paged() machine {
	m := machine{1 << 19, map[uint64]uint64{
		at(root, 0):   word(2, v),
		at(root, 1):   word(1<<18, v+r+w+x+u),
		at(root, 2):   word(1<<19, v+r+w+x+u),
		at(root, 3):   word(1<<43, v),
		at(root, 4):   word(2, v+a),
		at(root, 5):   word(1<<18+512, v+r+w+u),
		at(root, 6):   word(1<<44-1<<18, v+r+w+x+u),
		at(root, 8):   word(1<<18, r+w+x+u+g+a+d),
		at(root, 9):   word(1<<18, v+r) + 1<<54,
		at(root, 10):  word(2, v) + 1<<63,
		at(root, 11):  word(2, v+d),
		at(root, 12):  word(2, v+u),
		at(root, 13):  word(1<<18+1, v+r),
		at(root, 255): word(1<<18, v+r+w+u),
		at(root, 511): word(4, v+g),
		at(2, 0):      word(3, v),
		at(2, 1):      word(512, v+r+w+u),
		at(2, 2):      word(1<<19, v+r+w+u),
		at(2, 3):      word(1<<19, v),
		at(2, 4):      word(512, v+r) + 1<<60,
		at(2, 5):      word(513, v+r),
		at(2, 6):      word(3, v+a),
		at(2, 511):    word(512*511, v+r+w+x+u+g),
		at(3, 500):    word(1<<19-1, v+r+w+x+u),
		at(3, 501):    word(1<<19, v+r+w+x+u),
		at(3, 502):    word(1<<44-1, v+r+w+x+u),
		at(3, 503):    word(16, v+r) + 1<<54,
		at(3, 504):    word(3, v),
		at(3, 505):    word(16, v+w+x+u),
		at(3, 511):    word(16, v+r+w+u),
		at(4, 511):    word(5, v),
		at(4, 510):    word(512*3, v+r+w+u),
		at(5, 511):    word(17, v+r+w+u),
		at(5, 510):    word(18, v+r+w+u+g),
	}}
	for n := range uint64(128) {
		m.words[at(root, 256+n)] = word(1<<18, v+2*n+n%4<<8)
		m.words[at(2, 128+n)] = word(512*(1+n), v+2*n+n%4<<8)
		m.words[at(3, n)] = word(data+n, v+2*n+n%4<<8)
	}
	for _, frame := range []uint64{16, 17, 30, 143, 512, 512 * 3, 1 << 18, 1<<19 - 1} {
		for i := range uint64(3) {
			m.words[frame*4096+8*i] = 0xf1e2d3c4b5a69788 + frame*0x10001*(i+1)
		}
	}
	return m
}

// check holds a translation that is brought in against what is told of it, and answers what is behind it, and whether anything happened.
func check(t *testing.T, h api.Hart, m machine, addr uint64, kind int) (api.Hart, machine, bool) {
	t.Helper()
	was := h
	was.Tlb = api.Tlb{Sets: slices.Clone(h.Tlb.Sets)}
	k, n := adv.Bring(h, m.mem(), addr, kind)
	wantHart, want, done := m.brought(was, addr)
	if !like(k, wantHart) || !hart.Right(k) {
		t.Fatalf("%#x, %d, by %+v: the hart behind it is %+v, not %+v", addr, kind, h, k, wantHart)
	}
	if !same(n, want.mem()) || !mem.Right(n) {
		t.Fatalf("%#x, %d, by %+v: the memory behind it is %x, not %x", addr, kind, h, n.Cells, want.mem().Cells)
	}
	return k, want, done
}

// stays asks that bringing a translation in changes nothing at all.
func stays(t *testing.T, h api.Hart, m api.Mem, addr uint64) {
	t.Helper()
	for _, kind := range kinds {
		if k, n := adv.Bring(h, m, addr, kind); !like(k, h) || !same(n, m) {
			t.Errorf("%#x, %d, by %+v: %+v, %x", addr, kind, h, k, n.Cells)
		}
	}
}

// refused tells addresses that a look refuses: those of page faults, and those of access faults.
func refused() (page, access []uint64) {
	page = []uint64{
		address(7, 0, 0, 0), address(254, 511, 511, 4095), address(8, 0, 0, 8),
		address(9, 1, 2, 3), address(10, 0, 511, 0), address(2, 0, 0, 0) + 1<<38,
		address(4, 0, 511, 0), address(11, 0, 511, 0), address(12, 0, 511, 0),
		address(5, 0, 0, 0), address(13, 0, 0, 8), address(0, 5, 0, 0),
		address(0, 4, 0, 0), address(0, 6, 511, 0), address(0, 8, 0, 0), address(0, 127, 511, 4095),
		address(0, 0, 503, 0), address(0, 0, 504, 0), address(0, 0, 505, 0), address(0, 0, 510, 1),
		address(511, 0, 0, 0), address(511, 511, 0, 0), address(511, 511, 509, 4095),
		1 << 63, 1<<63 + 0x1ff000, 1<<39 + 0x1ff000, 1 << 38, all - 1<<38, all - 1<<40, all - 1<<62, all >> 1, all >> 25,
	}
	return page, []uint64{address(3, 0, 0, 0), address(3, 511, 511, 4095), address(0, 3, 0, 0), address(0, 3, 511, 8)}
}

// P17.1: with Satp off nothing happens, whatever the address, the tables, the buffer and the Victim.
func TestOff(t *testing.T) {
	m := paged().mem()
	page, access := refused()
	l := slices.Concat(page, access, []uint64{0, 0x1ff000, 0x200000, 0x40000000, all, all - 4095})
	for _, b := range buffers() {
		for i, victim := range victims {
			h := how()[i%8]
			h.Tlb, h.Victim = b, victim
			for _, addr := range l {
				stays(t, h, m, addr)
			}
		}
	}
	// The frame 0 is a table that would lead: it is the one that a Satp which is off has.
	m = machine{1, map[uint64]uint64{0: word(0, v+r+w+x+u)}}.mem()
	stays(t, api.Hart{Tlb: empty(1), Victim: 2}, m, 0)
	stays(t, api.Hart{Tlb: empty(1), Victim: 2}, m, 1)
}

// P17.1: where a look is refused nothing happens, by each of its faults; the Victim stays, and what the buffer has of that page.
func TestRefused(t *testing.T) {
	m := paged()
	whole := m.mem()
	page, access := refused()
	for cause, l := range map[int][]uint64{13: page, 5: access} {
		for _, addr := range l {
			if _, f := walk.Look(whole, root, addr, api.Load); f != (api.Fault{Is: true, Cause: cause, Addr: addr}) {
				t.Fatalf("%#x isn't refused by %d: %+v", addr, cause, f)
			}
			for i, b := range buffers() {
				for _, victim := range []int{-1, 0, 3, victims[i%10]} {
					h := on(how()[i%8], b)
					h.Victim = victim
					stays(t, h, whole, addr)
				}
			}
			if canonical(addr) {
				for level := range levels {
					h := on(api.Hart{Victim: 3}, holding(3, entry(word(0, v+r+w+x+u), level, addr, number, level == 1)))
					stays(t, h, whole, addr)
				}
			}
		}
	}
}

// P17.1: a root beyond the memory, or at its end, and memories of nothing: nothing happens.
func TestNoRoot(t *testing.T) {
	m := paged()
	for _, c := range []struct {
		m   machine
		ppn uint64
	}{{m, 1 << 19}, {m, 1<<44 - 1}, {m, 1 << 43}, {m, 1<<43 + root}, {m, 1<<32 + root}, {m, 1<<19 + root}, {m, 1<<19 - 1}, {machine{}, 0}, {machine{}, 1}, {machine{1, nil}, 0}, {machine{1, nil}, 1}} {
		for _, addr := range []uint64{8 << 30, 0x1ff000, all, 1 << 63} {
			h := on(api.Hart{Victim: 0}, empty(1))
			h.Satp.Ppn = c.ppn
			stays(t, h, c.m.mem(), addr)
		}
	}
}

// P17.1: by each table as the root, that in the last frame among them, what it leads to is brought in.
func TestRoots(t *testing.T) {
	m := paged()
	last := uint64(1<<19 - 1)
	m.words[at(last, 511)] = word(1<<18, v+r+w+d)
	brought := 0
	for _, ppn := range []uint64{0, 1, 2, 3, 4, 5, 16, 512, last} {
		for i, addr := range addresses() {
			h := on(api.Hart{Victim: i % 4}, empty(3))
			h.Satp.Ppn = ppn
			if _, _, done := check(t, h, m, addr, i%3); done {
				brought++
			}
		}
	}
	h := on(api.Hart{Victim: 1}, empty(1))
	h.Satp.Ppn = last
	if k, n, _ := check(t, h, m, all, api.Fetch); k.Tlb.Sets[0].Ways[1].Ppn != 1<<18 || n.words[at(last, 511)] != word(1<<18, v+r+w+a+d) {
		t.Errorf("by the last frame: %+v", k)
	}
	if brought < 60 {
		t.Errorf("%d were brought in", brought)
	}
}

// P17.1: an address that isn't canonical brings nothing in, whatever the tables have for its lower bits: each bit from 38 on, alone and with others.
func TestNotCanonical(t *testing.T) {
	m := paged()
	for _, b := range []api.Tlb{empty(0), empty(2), holding(2, entry(word(16, v+r+w+u), 0, 0x1ff000, number, true))} {
		for i := 38; i < 64; i++ {
			for _, low := range []uint64{0x1ff008, 0x3fc0000000, 0x200000, all, all - 4096} {
				for _, addr := range []uint64{low ^ 1<<i, low ^ 1<<i ^ 1<<63 ^ 1<<39} {
					kind := i % 3
					if _, _, done := check(t, on(api.Hart{Victim: 1}, b), m, addr, kind); done && !canonical(addr) {
						t.Errorf("%#x was brought in", addr)
					}
				}
			}
		}
	}
}

// P17.1: leaves of each level, of all settings of their bits, A and D and Rsw among them, for each kind, by each privilege: A is set, every other bit of all words stays, and the entry is put in, whether it permits anything or not.
func TestEachLeaf(t *testing.T) {
	m := paged()
	brought := 0
	for n := range uint64(128) {
		for level, c := range []struct{ addr, at uint64 }{
			{address(0, 0, n, 8), at(3, n)}, {address(0, 128+n, 77, 9), at(2, 128+n)}, {address(256+n, 5, 6, 7), at(root, 256+n)},
		} {
			bits := v + 2*n
			leaf := bits&r != 0 || bits&x != 0 && bits&w == 0
			for _, kind := range kinds {
				h := on(how()[(n+n/8+uint64(kind))%8], empty(many[(n+uint64(level))%4]))
				h.Victim = int(n%6) - 1
				k, o, done := check(t, h, m, c.addr, kind)
				if done != leaf {
					t.Fatalf("the level %d, %#x, %d: brought in is %v", level, bits, kind, done)
				}
				if !done {
					continue
				}
				brought++
				if o.words[c.at] != m.words[c.at]|a {
					t.Errorf("the level %d, %#x, %d: the word is %#x", level, bits, kind, o.words[c.at])
				}
				frame := []uint64{data + n, 512 * (1 + n), 1 << 18}[level]
				want := entry(word(frame, bits), level, c.addr, number, bits&g != 0)
				if l := tlb.All(k.Tlb); len(h.Tlb.Sets) > 0 && !slices.Equal(l, []api.Entry{want}) || k.Victim != -1 {
					t.Errorf("the level %d, %#x, %d: the buffer has %+v, the victim is %d", level, bits, kind, l, k.Victim)
				}
				// A second time nothing changes in memory.
				if _, n := adv.Bring(h, o.mem(), c.addr, kind); !same(n, o.mem()) {
					t.Errorf("the level %d, %#x, %d: a second time", level, bits, kind)
				}
			}
		}
	}
	if brought != 3*3*80 {
		t.Errorf("%d were brought in", brought)
	}
}

// P17.1: leaves written out, of each level, first and last addresses, in the upper half, global by a link, leading beyond the memory: the word that has A, and the entry, by each number of sets.
func TestBrought(t *testing.T) {
	m := paged()
	for i, c := range []struct {
		addr uint64
		leaf uint64
		e    api.Entry
	}{
		{0x1ff000, at(3, 511), api.Entry{Vpn: 511, Ppn: 16}},
		{0x1fffff, at(3, 511), api.Entry{Vpn: 511, Ppn: 16}},
		{0x1f4123, at(3, 500), api.Entry{Vpn: 500, Ppn: 1<<19 - 1, Perm: api.Perm{X: true}}},
		{0x200000, at(2, 1), api.Entry{Level: 1, Vpn: 512, Ppn: 512}},
		{0x3fffff, at(2, 1), api.Entry{Level: 1, Vpn: 512, Ppn: 512}},
		{0x3ff00001, at(2, 511), api.Entry{Level: 1, Vpn: 511 * 512, Ppn: 511 * 512, Global: true, Perm: api.Perm{X: true}}},
		{0x40000000, at(root, 1), api.Entry{Level: 2, Vpn: 1 << 18, Ppn: 1 << 18, Perm: api.Perm{X: true}}},
		{0x7fffffff, at(root, 1), api.Entry{Level: 2, Vpn: 1 << 18, Ppn: 1 << 18, Perm: api.Perm{X: true}}},
		{0x3fffffffff, at(root, 255), api.Entry{Level: 2, Vpn: 255 << 18, Ppn: 1 << 18}},
		{0xfffffffffffff010, at(5, 511), api.Entry{Vpn: 1<<27 - 1, Ppn: 17, Global: true}},
		{all, at(5, 511), api.Entry{Vpn: 1<<27 - 1, Ppn: 17, Global: true}},
		{0xffffffffffffefff, at(5, 510), api.Entry{Vpn: 1<<27 - 2, Ppn: 18, Global: true}},
		{0xffffffffffc00008, at(4, 510), api.Entry{Level: 1, Vpn: 1<<27 - 1024, Ppn: 512 * 3, Global: true}},
		{0x1f5008, at(3, 501), api.Entry{Vpn: 501, Ppn: 1 << 19, Perm: api.Perm{X: true}}},
		{0x1f6ff8, at(3, 502), api.Entry{Vpn: 502, Ppn: 1<<44 - 1, Perm: api.Perm{X: true}}},
		{0x400000, at(2, 2), api.Entry{Level: 1, Vpn: 1024, Ppn: 1 << 19}},
		{0x80000008, at(root, 2), api.Entry{Level: 2, Vpn: 2 << 18, Ppn: 1 << 19, Perm: api.Perm{X: true}}},
		{0x1bfffffff, at(root, 6), api.Entry{Level: 2, Vpn: 6 << 18, Ppn: 1<<44 - 1<<18, Perm: api.Perm{X: true}}},
	} {
		for _, sets := range many {
			for _, kind := range kinds {
				for _, marks := range []uint64{0, a, d, a + d} {
					for _, asid := range []uint64{0, number, 1<<16 - 1} {
						m := m.with(c.leaf, m.words[c.leaf]|marks)
						h := on(api.Hart{Priv: kind % 2, Victim: 3}, empty(sets))
						h.Satp.Asid = asid
						k, n := adv.Bring(h, m.mem(), c.addr, kind)
						if want := m.with(c.leaf, m.words[c.leaf]|a); !same(n, want.mem()) {
							t.Errorf("%d, %d, with %#x: the memory is %x", i, kind, marks, n.Cells)
						}
						e := c.e
						e.Valid, e.Asid, e.Dirty, e.Perm.R, e.Perm.W, e.Perm.U = true, asid, marks&d != 0, true, true, true
						want := h
						want.Tlb, want.Victim = empty(sets), -1
						if sets > 0 {
							s := &want.Tlb.Sets[e.Vpn*4096/levels[e.Level]%uint64(sets)]
							s.Ways[3] = e
						}
						if !like(k, want) {
							t.Errorf("%d, %d, with %#x, of %d sets: %+v", i, kind, marks, sets, k)
						}
					}
				}
			}
		}
	}
}

// P17.1: nobody is asked: pages of all permissions are brought in, by each privilege, with and without SUM and MXR, for each kind; accesses by them come to what they would have, and use the buffer where they may.
func TestNobodyIsAsked(t *testing.T) {
	m := paged()
	used, not := 0, 0
	for bits := uint64(v); bits < 256; bits += 2 {
		if bits&(r+x) == 0 || bits&w != 0 && bits&r == 0 {
			continue
		}
		addr := uint64(0x1ff010)
		m := m.with(at(3, 511), word(16, bits))
		for i, h := range how() {
			h = on(h, empty(1))
			k, n, done := check(t, h, m, addr, i%3)
			if e := entry(word(16, bits), 0, addr, number, bits&g != 0); !done || k.Tlb.Sets[0].Ways[0] != e {
				t.Fatalf("%#x by %+v: %+v", bits, h, k)
			}
			for _, kind := range kinds {
				_, _, want := hart.Access(h, m.mem(), kind, addr, 8, 5)
				k.Victim = 2
				l, o, got := hart.Access(k, n.mem(), kind, addr, 8, 5)
				if may := permits(bits, h, kind); got != want || got.Fault.Is == may {
					t.Errorf("%#x, %d by %+v: %+v, not %+v", bits, kind, h, got, want)
				}
				// What is used sets nothing in the tables, and leaves the Victim as it is.
				if may := permits(bits, h, kind) && (kind != api.Store || bits&d != 0); may {
					used++
					if l.Victim != 2 || mem.Word(o, at(3, 511)) != word(16, bits|a) {
						t.Errorf("%#x, %d by %+v: not used: %+v", bits, kind, h, l)
					}
				} else {
					not++
				}
			}
		}
	}
	if used < 200 || not < 200 {
		t.Errorf("%d used, %d not", used, not)
	}
}

// P17.1: into a set of which some ways are empty, all or none, by each Victim: that way, if there is one, else the least that is empty, else the one that is to go; behind it the Victim is -1, of no sets, too.
func TestVictim(t *testing.T) {
	m := paged()
	far := func(n uint64) api.Entry { return entry(word(9, v+r), 0, n<<12, number, false) }
	full := api.Set{Ways: [ways]api.Entry{far(900), far(901), far(902), far(903)}, Tree: 5}
	some := api.Set{Ways: [ways]api.Entry{far(900), {}, far(902), {}}, Tree: 5}
	for _, c := range []struct {
		victim            int
		empty, some, full int
	}{
		{-1, 0, 1, 3}, {0, 0, 0, 0}, {1, 1, 1, 1}, {2, 2, 2, 2}, {3, 3, 3, 3},
		{4, 0, 1, 3}, {-2, 0, 1, 3}, {1 << 32, 0, 1, 3}, {math.MinInt, 0, 1, 3}, {math.MaxInt, 0, 1, 3},
	} {
		for i, s := range []api.Set{{}, some, full} {
			h := on(api.Hart{Victim: c.victim}, api.Tlb{Sets: []api.Set{s}})
			k, _, _ := check(t, h, m, 0x1ff000, api.Load)
			want := s.Ways
			want[[]int{c.empty, c.some, c.full}[i]] = entry(word(16, v+r+w+u), 0, 0x1ff000, number, false)
			if k.Tlb.Sets[0].Ways != want || k.Victim != -1 {
				t.Errorf("%d, the victim %d: %+v", i, c.victim, k)
			}
			if k, _, _ = check(t, h, m, address(7, 0, 0, 0), api.Load); k.Victim != c.victim || k.Tlb.Sets[0] != s {
				t.Errorf("%d, the victim %d, of nothing: %+v", i, c.victim, k)
			}
		}
		h := on(api.Hart{Victim: c.victim}, api.Tlb{})
		if k, n, done := check(t, h, m, 0x1ff000, api.Load); !done || k.Victim != -1 || len(k.Tlb.Sets) != 0 || n.words[at(3, 511)] != word(16, v+r+w+u+a) {
			t.Errorf("of no sets, the victim %d: %+v", c.victim, k)
		}
	}
}

// P17.1: into buffers of each number of sets, filled more and less, by each Victim, leaves of each level.
func TestBuffers(t *testing.T) {
	m := paged()
	for i, b := range buffers() {
		if !tlb.Right(b) {
			t.Fatalf("%d: the buffer isn't right: %+v", i, b)
		}
		for k, victim := range victims {
			for _, addr := range []uint64{0x1ff000, address(0, 0, 1, 0), address(0, 0, 7, 0), 0x200000, 0x40000000, all, 0x7fffff, 0xffffffffffc00000} {
				h := on(how()[k%8], b)
				h.Victim = victim
				check(t, h, m, addr, kinds[(i+k)%3])
			}
		}
	}
}

// P17.1: a page that the buffer has already is there once behind it, as the leaf has it now: also that of all spaces for this space's, and the other way round; that of another number stays.
func TestHadAlready(t *testing.T) {
	m := paged()
	was := entry(word(99, v+r+x+d), 0, 0x1ff000, number, false)
	shared := was
	shared.Global, shared.Asid = true, 9
	other := was
	other.Asid = 9
	is := entry(word(16, v+r+w+u), 0, 0x1ff000, number, false)
	for i, c := range []struct{ was, want []api.Entry }{
		{[]api.Entry{is}, []api.Entry{is}},
		{[]api.Entry{was}, []api.Entry{is}},
		{[]api.Entry{shared}, []api.Entry{is}},
		{[]api.Entry{other}, []api.Entry{other, is}},
		{[]api.Entry{other, was}, []api.Entry{other, is}},
	} {
		for _, sets := range many[1:] {
			k, _, _ := check(t, on(api.Hart{Victim: -1}, holding(sets, c.was...)), m, 0x1ff000, api.Fetch)
			if !slices.Equal(tlb.All(k.Tlb), c.want) {
				t.Errorf("%d, of %d sets: %+v", i, sets, tlb.All(k.Tlb))
			}
		}
	}
	// A leaf of all spaces takes the place of each number's.
	last := entry(word(99, v+r), 0, all, number, false)
	others := last
	others.Asid = 9
	k, _, _ := check(t, on(api.Hart{Victim: -1}, holding(1, others, last)), m, all, api.Store)
	if want := []api.Entry{entry(word(17, v+r+w+u), 0, all, number, true)}; !slices.Equal(tlb.All(k.Tlb), want) {
		t.Errorf("of all spaces: %+v", tlb.All(k.Tlb))
	}
	// D of the leaf, gone or come meanwhile, is the entry's.
	for _, bits := range []uint64{0, d} {
		old := entry(word(16, v+r+w+u+(d-bits)), 0, 0x1ff000, number, false)
		k, _, _ := check(t, on(api.Hart{Victim: -1}, holding(1, old)), m.with(at(3, 511), word(16, v+r+w+u+bits)), 0x1ff000, api.Store)
		if l := tlb.All(k.Tlb); len(l) != 1 || l[0].Dirty != (bits != 0) {
			t.Errorf("with %#x: %+v", bits, l)
		}
	}
}

// P17.1: entries of other levels that meet the page stay beside it, and the least level's is found first.
func TestOtherLevels(t *testing.T) {
	m := paged()
	for _, addr := range []uint64{0x1ff000, 0x200000, 0x40000000, all - 4095, 0xffffffffffc00000} {
		l := []api.Entry{}
		for level := range levels {
			l = append(l, entry(word(1<<18, v+r), level, addr, number, level == 1))
		}
		for _, sets := range many[1:] {
			k, n, done := check(t, on(api.Hart{Victim: -1}, holding(sets, l...)), m, addr, api.Load)
			e := n.looked(root, addr, 2, false)
			is := entry(e.word, e.level, addr, number, e.global)
			if got := tlb.All(k.Tlb); !done || len(got) != 3 || !slices.Contains(got, is) {
				t.Errorf("%#x, of %d sets: %+v", addr, sets, got)
			}
			for level, was := range l {
				if got := slices.Contains(tlb.All(k.Tlb), was); got != (level != e.level) {
					t.Errorf("%#x, of %d sets: the entry of the level %d: %v", addr, sets, level, got)
				}
			}
			if got, _, _, _ := tlb.Find(k.Tlb, number, addr); got.Level != 0 {
				t.Errorf("%#x, of %d sets: found is %+v", addr, sets, got)
			}
		}
	}
}

// evicted asks for what Evict is told to answer: the way zero, or the error and the hart as it was.
func evicted(t *testing.T, h api.Hart, set, way int) api.Hart {
	t.Helper()
	want, err := h, api.ErrArg
	if set >= 0 && set < len(h.Tlb.Sets) && way >= 0 && way < ways {
		err = api.OK
		want.Tlb.Sets = slices.Clone(h.Tlb.Sets)
		want.Tlb.Sets[set].Ways[way] = api.Entry{}
	}
	k, e := adv.Evict(h, set, way)
	if e != err || !like(k, want) {
		t.Fatalf("Evict of %d, %d by %+v: %d, %+v", set, way, h, e, k)
	}
	return k
}

// P17.1: each way of each set goes, and that alone, also one that is empty, whether Satp is on or off; of a set and of a way that there isn't, on either side, the error, and the hart as it was.
func TestEvict(t *testing.T) {
	strange := []int{math.MinInt, -1 << 32, -4, -1, 16, 17, 1 << 32, 1<<32 + 1, math.MaxInt}
	for i, b := range buffers() {
		h := how()[i%8]
		h.Tlb, h.Victim = b, victims[i%10]
		for _, h := range []api.Hart{h, on(h, b)} {
			n := len(b.Sets)
			for set := -2; set < n+2; set++ {
				for way := -2; way < ways+2; way++ {
					evicted(t, h, set, way)
				}
				for _, way := range strange {
					evicted(t, h, set, way)
					evicted(t, h, way, set)
					evicted(t, h, way, way)
				}
			}
			// All of them, one behind the other: nothing is left.
			for set := range n {
				for way := range ways {
					h = evicted(t, h, set, way)
				}
			}
			if len(tlb.All(h.Tlb)) != 0 {
				t.Errorf("%d: left is %+v", i, tlb.All(h.Tlb))
			}
		}
	}
}

// P17.1: Pick of a way has it the Victim, and changes nothing else; of others it answers the error, and the hart as it was.
func TestPick(t *testing.T) {
	for i, b := range buffers() {
		for _, victim := range victims {
			h := how()[i%8]
			h.Tlb, h.Victim = b, victim
			for _, h := range []api.Hart{h, on(h, b)} {
				for _, way := range []int{0, 1, 2, 3} {
					want := h
					want.Victim = way
					if k, e := adv.Pick(h, way); e != api.OK || !like(k, want) {
						t.Errorf("Pick of %d by %+v: %d, %+v", way, h, e, k)
					}
				}
				for _, way := range []int{-1, 4, math.MinInt, math.MaxInt, -2, 5, 7, 8, -4, 1 << 32, -1 << 32, 1<<32 + 1, 256} {
					if k, e := adv.Pick(h, way); e != api.ErrArg || !like(k, h) {
						t.Errorf("Pick of %d by %+v: %d, %+v", way, h, e, k)
					}
				}
			}
		}
	}
	// The next that is brought in goes there, and the one behind it doesn't.
	k, _ := adv.Pick(on(api.Hart{}, empty(1)), 2)
	k, m := adv.Bring(k, paged().mem(), 0x1ff000, api.Load)
	k, _ = adv.Bring(k, m, 0x200000, api.Load)
	if s := k.Tlb.Sets[0].Ways; s[2].Vpn != 511 || s[0].Vpn != 512 || s[1].Valid || s[3].Valid {
		t.Errorf("picked: %+v", s)
	}
}

// step is one of a row: an access, or what befalls the buffer, by the numbers of operations.
type step struct {
	what     int
	kind     int
	addr     uint64
	size     int
	val      uint64
	set, way int
}

// addresses tells such as lie in pages of each level, some of which meet in the buffer's sets, and such as are refused.
func addresses() []uint64 {
	l := []uint64{0x1ff000, 0x1ff008, 0x1fffff, 0x1f4000, 0x1f5000, 0x200000, 0x234568, 0x400000, 0x3fe00010, 0x40000000, 0x7ffffff8, 0x80000000, 0xc0000000, 0x1000000, 0x100000000, 0x3fc0000001,
		0xfffffffffffff000, 0xffffffffffffe008, 0xffffffffffc00004, 1 << 38, 1 << 63, 0x3fffffffff, all}
	for n := uint64(0); n < 128; n += 5 {
		l = append(l, address(0, 0, n, n%3*8), address(0, 128+n, n, n%4*2), address(256+n, n, n, n%2))
	}
	return l
}

// steps tells rows, of all that befalls the buffer, and of accesses, that come to all addresses, and ever again to some that permit much.
func steps(length int) []step {
	l := addresses()
	again := []uint64{address(0, 0, 7, 8), address(0, 0, 127, 0), address(0, 128+15, 5, 16), address(256+7, 0, 9, 8), 0x40000010, 0xfffffffffffff000, address(0, 0, 15, 8), 0x1ff000, 0x200010}
	row := []step{}
	seed := uint64(1)
	next := func(n int) int {
		seed = seed*0x5851f42d4c957f2d + 0x14057b7ef767814f
		return int(seed >> 33 % uint64(n))
	}
	for range length {
		s := step{what: api.OpAccess, kind: next(3), addr: again[next(len(again))], size: 1 << next(4), val: seed, set: next(20) - 2, way: next(7) - 1}
		if next(3) == 0 {
			s.addr = l[next(len(l))]
		}
		switch next(10) {
		case 0, 1, 2:
			s.what = api.OpFetchTb
		case 3:
			s.what = api.OpEvict
		case 4:
			s.what = api.OpVictim
		default:
			s.addr -= s.addr % uint64(s.size)
		}
		row = append(row, s)
	}
	return row
}

// do has the hart do the step in the memory.
func (s step) do(h api.Hart, m api.Mem) (api.Hart, api.Mem, api.Result) {
	switch s.what {
	case api.OpFetchTb:
		h, m = adv.Bring(h, m, s.addr, s.kind)
	case api.OpEvict:
		h, _ = adv.Evict(h, s.set, s.way)
	case api.OpVictim:
		h, _ = adv.Pick(h, s.way)
	case api.OpAccess:
		return hart.Access(h, m, s.kind, s.addr, s.size, s.val)
	}
	return h, m, api.Result{}
}

// P17.1: rows, each step on what those ahead of it left, held against their telling, with buffers of each number of sets, the privilege and the number changing, Satp off between.
func TestOneBehindTheOther(t *testing.T) {
	for _, sets := range many {
		h, m := on(api.Hart{Victim: -1}, empty(sets)), paged().mem()
		brought, refused := 0, 0
		for i, s := range steps(2000) {
			if i%40 == 0 {
				as := how()[i/40%8]
				h.Priv, h.Sum, h.Mxr = as.Priv, as.Sum, as.Mxr
			}
			h.Satp = api.Satp{Mode: 8, Asid: uint64(i / 90 % 3), Ppn: root}
			if i%97 == 0 {
				h.Satp = api.Satp{}
			}
			switch s.what {
			case api.OpFetchTb:
				k, n, done := check(t, h, read(m), s.addr, s.kind)
				if done {
					brought++
				} else {
					refused++
				}
				h, m = k, n.mem()
			case api.OpEvict:
				h = evicted(t, h, s.set, s.way)
			default:
				h, m, _ = s.do(h, m)
			}
		}
		if brought < 200 || refused < 50 {
			t.Errorf("of %d sets: %d brought in, %d refused", sets, brought, refused)
		}
	}
}

// unmarked tells the memory's cells without A, of the tables.
func unmarked(m api.Mem) []api.Cell {
	l := slices.Clone(m.Cells)
	for i, c := range l {
		if c.At < data*512 {
			l[i].Val &^= a
		}
	}
	return l
}

// P17.2: where the buffer tells no more than the tables, it doesn't behind each step of a row, and accesses come to what they come to without a buffer: the memory is the same where the same was brought in, and but for A where nothing was.
func TestAgreesBehindRows(t *testing.T) {
	for _, sets := range many {
		h, k, o := on(api.Hart{Victim: -1}, empty(sets)), on(api.Hart{Victim: -1}, empty(0)), on(api.Hart{Victim: -1}, empty(0))
		m := paged().mem()
		n, p := m, m
		hits, only := 0, 0
		for i, s := range steps(3000) {
			as := how()[i/50%8]
			for _, h := range []*api.Hart{&h, &k, &o} {
				h.Priv, h.Sum, h.Mxr, h.Satp.Asid = as.Priv, as.Sum, as.Mxr, uint64(i/70%3)
			}
			if _, _, _, ok := tlb.Find(h.Tlb, h.Satp.Asid, s.addr); ok && canonical(s.addr) && s.what == api.OpAccess {
				hits++
			}
			var got, want, bare api.Result
			h, m, got = s.do(h, m)
			k, n, want = s.do(k, n)
			if s.what == api.OpAccess {
				o, p, bare = s.do(o, p)
			}
			if !hart.Agrees(h, m) {
				t.Fatalf("%d, of %d sets: behind %+v it tells more than the tables: %+v", i, sets, s, tlb.All(h.Tlb))
			}
			if got != want || !same(m, n) {
				t.Fatalf("%d, of %d sets: %+v: %+v, not %+v", i, sets, s, got, want)
			}
			if got != bare || !slices.Equal(unmarked(m), unmarked(p)) {
				t.Fatalf("%d, of %d sets: %+v: %+v, where nothing befalls the buffer %+v", i, sets, s, got, bare)
			}
			if !same(m, p) {
				only++
			}
		}
		if hits < 300 && sets > 0 || only < 300 {
			t.Errorf("of %d sets: %d accesses met the buffer, %d steps had more A", sets, hits, only)
		}
	}
}

// P17.2: so it is with any entry that tells no more than its leaf, of whatever bits, and with another number's that tells whatever it will, behind each of the calls.
func TestAgreesByEntry(t *testing.T) {
	m := paged()
	agree := 0
	for n := uint64(0); n < 128; n++ {
		for level, addr := range []uint64{address(0, 0, n, 0), address(0, 128+n, 0, 0), address(256+n, 0, 0, 0)} {
			leaf := m.looked(root, addr, 2, false)
			if !leaf.ok || leaf.word&a == 0 {
				continue
			}
			for bits := uint64(v); bits < 256; bits += 2 {
				if bits&^leaf.word&(r+w+x+d) != 0 || bits&a != 0 || (bits^leaf.word)&u != 0 {
					continue
				}
				e := entry(word(leaf.word>>10%(1<<44), bits), level, addr, number, bits&g != 0)
				stale := entry(word(1<<18, v+r+w+x+u+d), 2-level, 0x1ff000, number+1, false)
				h, whole := on(how()[(n+bits/2)%8], holding(1, stale, e)), m.mem()
				if !hart.Agrees(h, whole) {
					t.Fatalf("%+v with %#x at the level %d", e, leaf.word, level)
				}
				agree++
				for i, at := range []uint64{addr, 0x1ff000, all, 0xc0000000, 1 << 63} {
					h.Victim = i - 1
					if k, o := adv.Bring(h, whole, at, i%3); !hart.Agrees(k, o) {
						t.Fatalf("%+v with %#x at the level %d: behind Bring of %#x: %+v", e, leaf.word, level, at, tlb.All(k.Tlb))
					}
				}
				for way := -1; way <= ways; way++ {
					k, _ := adv.Evict(h, 0, way)
					l, _ := adv.Pick(h, way)
					if !hart.Agrees(k, whole) || !hart.Agrees(l, whole) {
						t.Fatalf("%+v with %#x at the level %d: behind Evict and Pick of %d", e, leaf.word, level, way)
					}
				}
			}
		}
	}
	if agree < 300 {
		t.Errorf("%d agree", agree)
	}
}

// call is one of the calls, on a hart and a memory that are its own.
type call struct {
	what string
	h    api.Hart
	s    step
}

// calls are all calls: those that change the buffer, the memory, both, and neither.
func calls() []call {
	l := []call{}
	for _, sets := range []int{1, 3} {
		b := filled(sets, func(set, way int) bool { return way != 1 })
		b.Sets[0].Ways[3] = api.Entry{}
		// The room behind the list is written full, so that it is seen when it changes.
		b.Sets = append(b.Sets, api.Set{Tree: 99}, api.Set{Tree: 98})[:sets]
		user, off := on(api.Hart{Victim: 2}, b), api.Hart{Tlb: b, Victim: 2}
		bring := func(addr uint64) step { return step{what: api.OpFetchTb, kind: api.Load, addr: addr} }
		evict := func(set, way int) step { return step{what: api.OpEvict, set: set, way: way} }
		l = append(l,
			call{"brought in, A set", user, bring(0x1ff000)},
			call{"brought in, of 2 MiB", user, bring(0x200000)},
			call{"brought in, of 1 GiB, the highest bits set", user, bring(address(256+127, 0, 0, 0))},
			call{"brought in, A there already", user, bring(address(0, 0, 127, 0))},
			call{"brought in, of no sets", on(api.Hart{}, empty(0)), bring(0x1ff000)},
			call{"off", off, bring(0x1ff000)},
			call{"no page", user, bring(0x1000000)},
			call{"no table", user, bring(0xc0000000)},
			call{"not canonical", user, bring(1 << 63)},
			call{"evicted", user, evict(0, 0)},
			call{"evicted, off", off, evict(sets-1, 2)},
			call{"evicted, empty", user, evict(0, 1)},
			call{"no such set", user, evict(sets, 0)},
			call{"no such way", user, evict(0, 4)},
			call{"picked", user, step{what: api.OpVictim, way: 3}},
			call{"not picked", user, step{what: api.OpVictim, way: 4}},
		)
	}
	return l
}

// whole tells all cells and all sets there are, the room behind the lists included, copied.
func whole(h api.Hart, m api.Mem) ([]api.Set, []api.Cell) {
	return slices.Clone(h.Tlb.Sets[:cap(h.Tlb.Sets)]), slices.Clone(m.Cells[:cap(m.Cells)])
}

// spoil writes into all sets and cells, and into the room behind them.
func spoil(h api.Hart, m api.Mem) {
	for i := range h.Tlb.Sets[:cap(h.Tlb.Sets)] {
		h.Tlb.Sets[:cap(h.Tlb.Sets)][i] = api.Set{Tree: 66, Ways: [ways]api.Entry{{Asid: 77}, {Vpn: 77}, {Ppn: 77}, {Level: 77}}}
	}
	for i := range m.Cells[:cap(m.Cells)] {
		m.Cells[:cap(m.Cells)][i] = api.Cell{At: 77, Val: 77}
	}
}

// P17.3: what is handed in is as it was behind each call, the room behind the lists included.
func TestHandedInStays(t *testing.T) {
	for _, c := range calls() {
		m := paged().mem()
		was := c.h
		sets, cells := whole(c.h, m)
		c.s.do(c.h, m)
		nowSets, nowCells := whole(c.h, m)
		if !slices.Equal(sets, nowSets) || !slices.Equal(cells, nowCells) || !like(was, c.h) {
			t.Errorf("%s: it left %+v, %x", c.what, nowSets, nowCells)
		}
	}
}

// P17.3: what is answered shares no cells with what was handed in, nor with another answer, where it changed.
func TestAnswersAreNew(t *testing.T) {
	changes := 0
	for _, c := range calls() {
		m := paged().mem()
		sets, cells := whole(c.h, m)
		h, n, _ := c.s.do(c.h, m)
		k, o, _ := c.s.do(c.h, m)
		otherSets, otherCells := whole(k, o)
		// What stays as it was may be shared: just the rest is written into.
		if slices.Equal(h.Tlb.Sets, c.h.Tlb.Sets) {
			h.Tlb = api.Tlb{}
		} else {
			changes++
		}
		if same(n, m) {
			n = api.Mem{}
		} else {
			changes++
		}
		spoil(h, n)
		nowSets, nowCells := whole(c.h, m)
		if !slices.Equal(sets, nowSets) || !slices.Equal(cells, nowCells) {
			t.Errorf("%s: what was handed in is %+v, %x", c.what, nowSets, nowCells)
		}
		if nowSets, nowCells = whole(k, o); !slices.Equal(otherSets, nowSets) || !slices.Equal(otherCells, nowCells) {
			t.Errorf("%s: another answer is %+v, %x", c.what, nowSets, nowCells)
		}
	}
	if changes != 2*(4+3+2) {
		t.Errorf("%d changes", changes)
	}
}

// P17.3: nothing is kept: when what was handed in has changed, the next call sees it as it is.
func TestNothingIsKept(t *testing.T) {
	for _, c := range calls() {
		m := paged().mem()
		k, n, _ := c.s.do(c.h, m)
		other := c.h
		other.Victim, other.Satp = 1, api.Satp{Mode: 8, Asid: 7, Ppn: 4}
		c.s.do(other, api.Mem{Size: 4096})
		if l, o, _ := c.s.do(c.h, m); !like(l, k) || !same(o, n) {
			t.Errorf("%s: %+v, and then %+v", c.what, k, l)
		}
	}
	m := machine{2, map[uint64]uint64{at(1, 0): word(0, v+r)}}.mem()
	h := on(api.Hart{}, empty(1))
	if k, _ := adv.Bring(h, m, 0, api.Load); len(tlb.All(k.Tlb)) != 1 {
		t.Errorf("brought in: %+v", k)
	}
	m.Cells[0].Val--
	if k, _ := adv.Bring(h, m, 0, api.Load); len(tlb.All(k.Tlb)) != 0 {
		t.Errorf("brought in, when it has gone: %+v", k)
	}
}

// Nil and empty lists are one, handed in.
func TestNilAndEmpty(t *testing.T) {
	for _, sets := range [][]api.Set{nil, {}} {
		for _, cells := range [][]api.Cell{nil, {}} {
			h, m := on(api.Hart{Victim: 1}, api.Tlb{Sets: sets}), api.Mem{Size: 4 * 4096, Cells: cells}
			stays(t, h, m, 0x1000)
			evicted(t, h, 0, 0)
			if k, e := adv.Pick(h, 0); e != api.OK || k.Victim != 0 || len(k.Tlb.Sets) != 0 {
				t.Errorf("%v: picked: %d, %+v", sets, e, k)
			}
		}
		h := on(api.Hart{Victim: 1}, api.Tlb{Sets: sets})
		m := machine{2, map[uint64]uint64{at(1, 0): word(0, v+r)}}
		if k, _, done := check(t, h, m, 0, api.Load); !done || k.Victim != -1 {
			t.Errorf("%v: brought in: %+v", sets, k)
		}
	}
}

// The chapter's example: a page that nobody may read is brought in; it is in the buffer, and no access may use it.
func TestExample(t *testing.T) {
	m := machine{2, map[uint64]uint64{at(1, 2): word(0, v+x+u), 8: 5}}
	for i, h := range how() {
		if h.Mxr || h.Priv == api.User {
			continue
		}
		k, n := adv.Bring(on(h, empty(2)), m.mem(), 2<<30+8, api.Load)
		e := api.Entry{Valid: true, Asid: number, Level: 2, Vpn: 2 << 18, Perm: api.Perm{X: true, U: true}}
		if l := tlb.All(k.Tlb); !slices.Equal(l, []api.Entry{e}) || mem.Word(n, at(1, 2)) != word(0, v+x+u+a) {
			t.Errorf("%d: in the buffer is %+v", i, l)
		}
		for _, kind := range kinds {
			want := api.Result{Fault: api.Fault{Is: true, Cause: []int{12, 13, 15}[kind], Addr: 2<<30 + 8}}
			if _, _, got := hart.Access(k, n, kind, 2<<30+8, 8, 0); got != want {
				t.Errorf("%d, %d: %+v", i, kind, got)
			}
		}
	}
}

// Of harts and memories that aren't right, and kinds that are none, nothing is promised but that every call ends, and none panics; of such a kind nothing happens.
func TestNoPanic(t *testing.T) {
	strange := []int{math.MinInt, -1 << 32, -8, -1, 0, 1, 2, 3, 4, 5, 16, 64, 1 << 32, math.MaxInt}
	odd := []api.Entry{{Asid: 1, Vpn: all}, {Valid: true, Vpn: all, Ppn: all, Asid: all, Global: true}, {Valid: true, Level: -1, Global: true}, {Valid: true, Level: 3, Global: true}, {Valid: true, Level: math.MinInt, Global: true}, {Valid: true, Level: math.MaxInt, Global: true}}
	memories := []api.Mem{{}, {Size: 5}, {Size: all, Cells: []api.Cell{{At: all, Val: all}, {At: 0, Val: word(1, v+r)}, {At: 512, Val: word(0, v+r+w+x+u)}}}, paged().mem()}
	for _, n := range strange {
		for i, o := range strange {
			for _, sets := range []int{0, 1, 3, 17} {
				b := empty(sets)
				for k := range b.Sets {
					b.Sets[k] = api.Set{Tree: uint8(k * 77), Ways: [ways]api.Entry{odd[(i+k)%6], odd[(i+1)%6], odd[(i+2)%6], odd[(i+3)%6]}}
				}
				for k, m := range memories {
					h := api.Hart{Tlb: b, Satp: api.Satp{Mode: []uint64{0, 8, all, 8}[(i+sets)%4], Ppn: []uint64{root, all, 1 << 44, 0}[k], Asid: all}, Priv: o, Victim: n}
					for _, addr := range []uint64{0, 8, 0x1ff000, all, 1 << 50} {
						adv.Bring(h, m, addr, i%3)
						if k, p := adv.Bring(h, m, addr, o); (o < 0 || o > 2) && (!like(k, h) || !same(p, m)) {
							t.Errorf("of the kind %d: %+v", o, k)
						}
					}
					adv.Evict(h, n, o)
					adv.Evict(h, i, n)
					adv.Pick(h, o)
				}
			}
		}
	}
}
