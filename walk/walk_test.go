package walk_test

import (
	"math"
	"slices"
	"testing"

	"atlas/api"
	"atlas/mem"
	"atlas/pte"
	"atlas/walk"
)

const all = ^uint64(0)

// The bits of an entry's word, told as numbers.
const (
	v = 1
	r = 2
	w = 4
	x = 8
	u = 0x10
	g = 0x20
	a = 0x40
	d = 0x80
)

// Sorts of faults, as they are told here.
const (
	none = iota
	page
	access
)

var kinds = []int{api.Fetch, api.Load, api.Store}

// fault tells the fault of the sort, by the causes' numbers.
func fault(sort, kind int, addr uint64) api.Fault {
	causes := map[int][]int{page: {12, 13, 15}, access: {1, 5, 7}}[sort]
	if causes == nil {
		return api.Fault{}
	}
	return api.Fault{Is: true, Cause: causes[kind], Addr: addr}
}

// ways tells all that are: of each kind and privilege, with and without SUM and MXR.
func ways() []api.Way {
	l := []api.Way{}
	for _, kind := range kinds {
		for _, priv := range []int{api.User, api.Super} {
			for n := range 4 {
				l = append(l, api.Way{Kind: kind, Priv: priv, Sum: n&1 != 0, Mxr: n&2 != 0})
			}
		}
	}
	return l
}

// permits tells whether a page whose entry has these bits permits the way.
func permits(bits uint64, way api.Way) bool {
	asked := []bool{bits&x != 0, bits&r != 0 || way.Mxr && bits&x != 0, bits&w != 0}[way.Kind]
	if way.Priv == api.User {
		return asked && bits&u != 0
	}
	return asked && (bits&u == 0 || way.Kind != api.Fetch && way.Sum)
}

// words are a memory's words that aren't 0, by their addresses.
type words map[uint64]uint64

// at tells where the entry of that index is in the table of that frame.
func at(table, index uint64) uint64 {
	return table*4096 + index*8
}

// entry tells the word of an entry of that frame.
func entry(frame, bits uint64) uint64 {
	return frame*1024 + bits
}

// address tells the canonical address of these indexes and that offset.
func address(high, mid, low, offset uint64) uint64 {
	if high > 255 {
		high += 0x3fffffe00
	}
	return ((high*512+mid)*512+low)*4096 + offset
}

// laid tells the memory of so many frames that holds these words.
func (l words) laid(frames uint64) api.Mem {
	m := api.Mem{Size: frames * 4096}
	for at, val := range l {
		if val != 0 {
			m.Cells = append(m.Cells, api.Cell{At: at / 8, Val: val})
		}
	}
	slices.SortFunc(m.Cells, func(a, b api.Cell) int { return int(a.At) - int(b.At) })
	return m
}

// with tells the words with another one.
func (l words) with(at, val uint64) words {
	n := words{at: val}
	for k, old := range l {
		if k != at {
			n[k] = old
		}
	}
	return n
}

// end is where a walk ended: the sort of its fault, or the leaf's level, its word and where that is, and G of it or of a link.
type end struct {
	sort   int
	level  int
	at     uint64
	word   uint64
	global bool
}

// told tells how a walk ends, as the chapter has it, level by level.
func (l words) told(frames, root, addr uint64) end {
	if top := addr >> 38; top != 0 && top != 1<<26-1 {
		return end{sort: page}
	}
	return l.from(frames, root, addr, 2, false)
}

func (l words) from(frames, table, addr uint64, level int, global bool) end {
	worth := []uint64{1 << 12, 1 << 21, 1 << 30}[level]
	place := at(table, addr/worth%512)
	if place >= frames*4096 {
		return end{sort: access}
	}
	e := l[place]
	frame, leaf := e>>10&(1<<44-1), e&(r+x) != 0
	global = global || e&g != 0
	switch {
	case e&v == 0, e&w != 0 && e&r == 0, e>>54 != 0:
		return end{sort: page}
	case !leaf && (level == 0 || e&(a+d+u) != 0), leaf && frame*4096%worth != 0:
		return end{sort: page}
	case leaf:
		return end{none, level, place, e, global}
	}
	return l.from(frames, frame, addr, level-1, global)
}

// leaf tells what Look is to answer of an end: a zero leaf beside a fault.
func (e end) leaf() api.Leaf {
	if e.sort != none {
		return api.Leaf{}
	}
	on := func(bit uint64) bool { return e.word&bit != 0 }
	return api.Leaf{Level: e.level, At: e.at, Pte: api.Pte{
		V: on(v), R: on(r), W: on(w), X: on(x), U: on(u), G: e.global, A: on(a), D: on(d),
		Rsw: e.word >> 8 & 3, Ppn: e.word >> 10 & (1<<44 - 1),
	}}
}

// same tells whether two memories are the same; nil and empty lists are one.
func same(m, n api.Mem) bool {
	return m.Size == n.Size && slices.Equal(m.Cells, n.Cells)
}

// Frames of some: so many, the root's, that of the table whose links lead nowhere.
const (
	frames = 8
	root   = 1
	astray = 4
)

// some are the words of tables: links of all levels, leaves of all levels, entries that are bad, places beyond the memory, just and by far.
func some() words {
	return words{
		at(root, 0):   entry(2, v),
		at(root, 1):   entry(3<<18, v+r+w),
		at(root, 2):   entry(1<<18+512, v+r+w),
		at(root, 3):   entry(astray, v),
		at(root, 4):   entry(frames, v),
		at(root, 5):   entry(1<<44-1, v),
		at(root, 6):   entry(2, v+a),
		at(root, 7):   entry(frames-1, v),
		at(root, 8):   entry(root, v),
		at(root, 255): entry(0, v+x+0x300),
		at(root, 256): entry(1<<18, v+x+u+a),
		at(root, 511): entry(2, v+g),

		at(2, 0):   entry(3, v),
		at(2, 1):   entry(1024, v+r+u),
		at(2, 2):   entry(1024+1, v+r+u),
		at(2, 3):   entry(frames, v+0x100),
		at(2, 4):   entry(1<<44-1, v),
		at(2, 5):   entry(3, v+d),
		at(2, 6):   entry(3, v+g+0x200),
		at(2, 511): entry(1<<44-512, v+r+w+x+g+a+d),

		at(3, 0):   entry(0, v+r+a),
		at(3, 5):   entry(77, v+r+w),
		at(3, 6):   entry(1, v),
		at(3, 7):   entry(1, v+w),
		at(3, 8):   entry(9, v+r+1<<54),
		at(3, 9):   entry(9, v+r+1<<63),
		at(3, 10):  entry(9, v+x+w),
		at(3, 11):  entry(9, r+w+x+u),
		at(3, 12):  entry(1<<44-1, v+x+u+g+0x300),
		at(3, 511): entry(78, v+r+w+u+a+d),

		at(astray, 0): 0, at(astray, 1): entry(5, v), at(astray, 2): entry(astray, v),
		at(5, 1): entry(6, v), at(5, 2): entry(6, v+r),
		at(frames-1, 511): entry(frames-1, v),
	}
}

// indexes are those that some's tables have, and beside them such as no table has.
var indexes = []uint64{0, 1, 2, 3, 4, 5, 6, 7, 8, 9, 10, 11, 12, 13, 255, 256, 257, 510, 511}

// addresses tells addresses of all these indexes, at their pages' beginnings, ends and between, and such as aren't canonical.
func addresses() []uint64 {
	l := []uint64{}
	for _, high := range indexes {
		for _, mid := range indexes {
			for i, low := range indexes {
				l = append(l, address(high, mid, low, []uint64{0, 4095, 8, 1, 0xabc}[i%5]))
			}
		}
	}
	for i := 38; i < 64; i++ {
		bit := uint64(1) << i
		l = append(l, bit, bit+0x5000, bit-1, bit-0x1000, all-bit, all-bit-0x3fffffafff, all-bit+1)
	}
	return append(l, all, all-4095, 1<<63, 1<<63-1, 0x7fffffc000005000, 0xffffff8000005000, 0xffffffbfffffffff, 0xffffffc000000000)
}

// P10.1: the leaves of the three levels, by links and straight, and the faults of each sort, told one by one.
func TestLook(t *testing.T) {
	m := some().laid(frames)
	for _, c := range []struct {
		what     string
		addr     uint64
		sort     int
		level    int
		at       uint64
		bits     uint64
		physical uint64
	}{
		{"a small page", 0x5abc, none, 0, at(3, 5), v + r + w, 77*4096 + 0xabc},
		{"a small page's beginning", 0x5000, none, 0, at(3, 5), v + r + w, 77 * 4096},
		{"a small page's end", 0x5fff, none, 0, at(3, 5), v + r + w, 78*4096 - 1},
		{"the address 0", 0, none, 0, at(3, 0), v + r + a, 0},
		{"the table's last entry", 0x1ff008, none, 0, at(3, 511), v + r + w + u + a + d, 78*4096 + 8},
		{"a middle page", 0x200123, none, 1, at(2, 1), v + r + u, 0x400123},
		{"a middle page's end", 0x3fffff, none, 1, at(2, 1), v + r + u, 0x5fffff},
		{"a large page", 0x40000007, none, 2, at(root, 1), v + r + w, 3<<30 + 7},
		{"a large page's end", 0x7fffffff, none, 2, at(root, 1), v + r + w, 4<<30 - 1},
		{"the last of the low half", 0x3fffffffff, none, 2, at(root, 255), v + x, 1<<30 - 1},
		{"the first of the high half", 0xffffffc000000000, none, 2, at(root, 256), v + x + u + a, 1 << 30},
		{"a page far off", 0x3fe00abc, none, 1, at(2, 511), v + r + w + x + g + a + d, 1<<56 - 1<<21 + 0xabc},
		{"the farthest page", 0xc0b8, none, 0, at(3, 12), v + x + u + g, 1<<56 - 4096 + 0xb8},
		{"by a link with G", 0xffffffffc0005000, none, 0, at(3, 5), v + r + w + g, 77 * 4096},

		{"not canonical", 1 << 39, page, 0, 0, 0, 0},
		{"not canonical, the bit 38", 1 << 38, page, 0, 0, 0, 0},
		{"not canonical, the bit 63", 1<<63 + 0x5000, page, 0, 0, 0, 0},
		{"not canonical, the bit 63 alone lacks", all>>1 - 0xfff, page, 0, 0, 0, 0},
		{"nothing in the root", 0xff<<30 - 1, page, 0, 0, 0, 0},
		{"nothing at the level 1", 0x1000000, page, 0, 0, 0, 0},
		{"nothing at the level 0", 0x1000, page, 0, 0, 0, 0},
		{"a large page whose frame is but a multiple of 512", 0x80000000, page, 0, 0, 0, 0},
		{"a middle page whose frame is no multiple", 0x400000, page, 0, 0, 0, 0},
		{"a link at the lowest level", 0x6000, page, 0, 0, 0, 0},
		{"W alone", 0x7000, page, 0, 0, 0, 0},
		{"W and X", 0xa000, page, 0, 0, 0, 0},
		{"High", 0x8000, page, 0, 0, 0, 0},
		{"the bit 63", 0x9000, page, 0, 0, 0, 0},
		{"V lacks", 0xb000, page, 0, 0, 0, 0},
		{"a link with A", 0x180005000, page, 0, 0, 0, 0},
		{"a link with D", 0xa05000, page, 0, 0, 0, 0},
		{"a root that links to itself", 0x200000000 + 8<<21 + 0x8000, page, 0, 0, 0, 0},
		{"a table beyond the memory", 0x100000000, access, 0, 0, 0, 0},
		{"a table far off", 0x140000000, access, 0, 0, 0, 0},
		{"a small table beyond the memory", 0x600000, access, 0, 0, 0, 0},
		{"a small table far off", 0x9ff000, access, 0, 0, 0, 0},
	} {
		for _, kind := range kinds {
			l, f := walk.Look(m, root, c.addr, kind)
			if f != fault(c.sort, kind, c.addr) || l.Level != c.level || l.At != c.at || pteBits(l.Pte) != c.bits {
				t.Errorf("%s, %d: %+v, %+v", c.what, kind, l, f)
			}
			if c.sort != none && l != (api.Leaf{}) {
				t.Errorf("%s, %d: beside the fault there is %+v", c.what, kind, l)
			}
			if got := walk.Physical(l, c.addr); c.sort == none && got != c.physical {
				t.Errorf("%s, %d: it is at %#x", c.what, kind, got)
			}
		}
	}
}

// pteBits tells an entry's eight bits as a number.
func pteBits(p api.Pte) uint64 {
	n := uint64(0)
	for i, on := range []bool{p.V, p.R, p.W, p.X, p.U, p.G, p.A, p.D} {
		if on {
			n += 1 << i
		}
	}
	return n
}

// P10.1: every address of some tables, from every root, those beyond the memory among them, held against the chapter's telling.
func TestLookEverywhere(t *testing.T) {
	l := some()
	m := l.laid(frames)
	for _, from := range []uint64{0, root, 2, 3, astray, 5, 6, frames - 1, frames, frames + 1, 1 << 28, 1<<32 + root, 1 << 43, 1<<44 - 1} {
		for i, addr := range addresses() {
			want := l.told(frames, from, addr)
			kind := kinds[i%3]
			got, f := walk.Look(m, from, addr, kind)
			if got != want.leaf() || f != fault(want.sort, kind, addr) {
				t.Fatalf("Look from %#x, %#x, %d: %+v, %+v, not %+v", from, addr, kind, got, f, want)
			}
			if want.sort != none {
				continue
			}
			size := []uint64{4096, 4096 * 512, 4096 * 512 * 512}[want.level]
			if at := walk.Physical(got, addr); at != want.leaf().Pte.Ppn*4096+addr%size {
				t.Fatalf("%#x from %#x is at %#x", addr, from, at)
			}
		}
	}
	if !same(m, l.laid(frames)) {
		t.Error("looked at, the memory changed")
	}
}

// spot is a place that a walk of the address comes to at the level, by the links on the way there.
type spot struct {
	level int
	on    words
	at    uint64
	addr  uint64
}

// spots are one place a level, of memories whose root is the frame 1.
func spots() []spot {
	return []spot{
		{2, words{}, at(1, 300), address(300, 7, 8, 9)},
		{1, words{at(1, 300): entry(2, v)}, at(2, 7), address(300, 7, 8, 9)},
		{0, words{at(1, 300): entry(2, v), at(2, 7): entry(3, v)}, at(3, 8), address(300, 7, 8, 9)},
	}
}

// P10.1: at each level an entry of each setting of its bits, of frames that are multiples and not, with and without High: a leaf, a link, or bad.
func TestEntries(t *testing.T) {
	ppns := []uint64{0, 1, 3, 4, 511, 512, 513, 1 << 18, 1<<18 + 512, 1<<18 + 1, 1<<44 - 1<<18, 1<<44 - 512, 1<<44 - 1}
	highs := []uint64{1 << 54, 1 << 63, 1023 << 54}
	for _, s := range spots() {
		for bits := range uint64(1024) {
			for i, ppn := range ppns {
				kind := kinds[(i+int(bits))%3]
				for _, high := range []uint64{0, highs[(i+int(bits))%3]} {
					l := s.on.with(s.at, entry(ppn, bits)+high)
					want := l.told(4, 1, s.addr)
					got, f := walk.Look(l.laid(4), 1, s.addr, kind)
					if got != want.leaf() || f != fault(want.sort, kind, s.addr) {
						t.Fatalf("at the level %d %#x: %+v, %+v, not %+v", s.level, l[s.at], got, f, want)
					}
				}
			}
		}
	}
}

// P10.1: places that are just within the memory and just beyond it, at each level, and of an address that isn't canonical, the page fault all the same.
func TestBeyond(t *testing.T) {
	const leaf = v + r + w + x
	for _, c := range []struct {
		what   string
		frames uint64
		root   uint64
		on     words
		addr   uint64
		sort   int
	}{
		{"the root is the last frame, its first entry", 2, 1, words{at(1, 0): leaf}, 0, none},
		{"the root is the last frame, its last entry", 2, 1, words{at(1, 511): leaf}, address(511, 0, 0, 0), none},
		{"the root's frame is just beyond, its first entry", 2, 2, nil, 0, access},
		{"the root's frame is just beyond, its last entry", 2, 2, nil, address(511, 1, 2, 3), access},
		{"the root's frame is far off", 2, 1<<44 - 1, nil, address(511, 1, 2, 3), access},
		{"the root's frame would wrap round in 32 bits", 2, 1<<20 + 1, words{at(1, 0): leaf}, 0, access},
		{"the root's frame would wrap round in 44 bits", 2, 1<<32 + 1, words{at(1, 0): leaf}, 0, access},
		{"a memory of nothing", 0, 0, nil, 0, access},
		{"a memory of nothing, not canonical", 0, 0, nil, 1 << 40, page},
		{"a root beyond, not canonical", 2, 2, nil, 1 << 38, page},
		{"a root far off, not canonical", 2, 1<<44 - 1, nil, 1<<63 + 5, page},
		{"the middle table is the last frame", 2, 0, words{0: entry(1, v), at(1, 511): leaf}, address(0, 511, 3, 4), none},
		{"the middle table is just beyond", 2, 0, words{0: entry(2, v)}, address(0, 0, 3, 4), access},
		{"the middle table is just beyond, its last entry", 2, 0, words{0: entry(2, v)}, address(0, 511, 3, 4), access},
		{"the middle table is far off", 2, 0, words{0: entry(1<<44-1, v)}, address(0, 511, 3, 4), access},
		{"the middle table would wrap round in 44 bits", 2, 0, words{0: entry(1<<32+1, v), at(1, 0): leaf}, 0, access},
		{"the small table is the last frame", 3, 0, words{0: entry(1, v), at(1, 0): entry(2, v), at(2, 511): leaf}, address(0, 0, 511, 4), none},
		{"the small table is just beyond", 2, 0, words{0: entry(1, v), at(1, 0): entry(2, v)}, address(0, 0, 0, 4), access},
		{"the small table is far off", 2, 0, words{0: entry(1, v), at(1, 0): entry(1<<44-1, v)}, address(0, 0, 511, 4), access},
		{"the page is beyond the memory", 1, 0, words{8: entry(1<<44-1<<18, leaf)}, address(1, 0, 511, 4), none},
		{"a bad link to a table beyond", 2, 0, words{0: entry(2, v+u)}, 0, page},
		{"a link at the lowest level to a table beyond", 1, 0, words{0: entry(0, v), 8: entry(9, v)}, address(0, 0, 1, 0), page},
	} {
		m := c.on.laid(c.frames)
		for _, way := range ways() {
			l, f := walk.Look(m, c.root, c.addr, way.Kind)
			if want := c.on.told(c.frames, c.root, c.addr); want.sort != c.sort || l != want.leaf() || f != fault(c.sort, way.Kind, c.addr) {
				t.Errorf("%s, %+v: %+v, %+v", c.what, way, l, f)
			}
			if c.sort == none {
				continue
			}
			n, l, f := walk.Walk(m, c.root, c.addr, way)
			if !same(n, m) || l != (api.Leaf{}) || f != fault(c.sort, way.Kind, c.addr) {
				t.Errorf("%s, %+v, walked: %v, %+v, %+v", c.what, way, n, l, f)
			}
		}
	}
}

// P10.1, P10.2: G of the leaf's entry, and of each link on the way, alone and together, is the leaf's; in the memory each entry's G stays as it is.
func TestGlobal(t *testing.T) {
	on := func(n, bit uint64) uint64 { return n >> bit & 1 * g }
	for n := range uint64(8) {
		l := words{
			at(1, 511): entry(2, v+on(n, 2)), at(2, 511): entry(3, v+on(n, 1)), at(3, 511): entry(4, v+r+w+on(n, 0)),
			at(1, 1): entry(1<<18, v+r+w+on(n, 0)), at(2, 1): entry(512, v+r+w+on(n, 0)),
			// Links that no walk of these comes by.
			at(1, 0): entry(2, v+g), at(2, 0): entry(3, v+g), at(3, 0): entry(3, v+r+g),
		}
		for _, c := range []struct {
			addr uint64
			at   uint64
			ways uint64 // the bits of n that are on the way
		}{{address(511, 511, 511, 8), at(3, 511), 7}, {address(511, 1, 511, 8), at(2, 1), 5}, {address(1, 511, 511, 8), at(1, 1), 1}} {
			// Of a leaf above the level 0 the links' bits are those above it.
			want := n&c.ways != 0
			m := l.laid(5)
			leaf, f := walk.Look(m, 1, c.addr, api.Load)
			if f.Is || leaf.At != c.at || leaf.Pte.G != want {
				t.Errorf("%d, %#x: %+v, %+v", n, c.addr, leaf, f)
			}
			k, marked := walk.Mark(m, leaf, true)
			if marked.Pte.G != want || !same(k, l.with(c.at, l[c.at]+a+d).laid(5)) {
				t.Errorf("%d, %#x, marked: %+v, %x", n, c.addr, marked, k)
			}
			k, leaf, f = walk.Walk(m, 1, c.addr, api.Way{Kind: api.Load, Priv: api.Super})
			if f.Is || leaf.Pte.G != want || !same(k, l.with(c.at, l[c.at]+a).laid(5)) {
				t.Errorf("%d, %#x, walked: %+v, %+v, %x", n, c.addr, leaf, f, k)
			}
		}
	}
}

// P10.1: a leaf's address: the frame, and the offset of the leaf's level.
func TestPhysical(t *testing.T) {
	for _, c := range []struct {
		level    int
		ppn      uint64
		addr     uint64
		physical uint64
	}{
		{0, 0, 0, 0},
		{0, 77, 0x5abc, 77*4096 + 0xabc},
		{0, 1, 0xffffffffffffffff, 0x1fff},
		{0, 1<<44 - 1, 0xffffffffffffffff, 1<<56 - 1},
		{0, 1<<44 - 1, 0x12345000, 1<<56 - 4096},
		{1, 0, 0x3fffffffff, 0x1fffff},
		{1, 1024, 0x200123, 0x400123},
		{1, 512, 0xffffffffffe54321, 0x254321},
		{1, 1<<44 - 512, 0x1fffff, 1<<56 - 1},
		{2, 0, 5, 5},
		{2, 1 << 18, 0x40000007, 0x40000007},
		{2, 3 << 18, 0xffffffffd2345678, 0xd2345678},
		{2, 1<<44 - 1<<18, 0xffffffffffffffff, 1<<56 - 1},
	} {
		l := api.Leaf{Level: c.level, Pte: api.Pte{V: true, R: true, Ppn: c.ppn}}
		if got := walk.Physical(l, c.addr); got != c.physical {
			t.Errorf("%d, %#x, %#x: %#x, not %#x", c.level, c.ppn, c.addr, got, c.physical)
		}
	}
}

// P10.2: a leaf of each level, with and without A and D, other bits and fields of all settings, is marked, dirty and not, in the memory and by itself; its neighbours stay.
func TestMark(t *testing.T) {
	for _, s := range spots() {
		for bits := range uint64(1024) {
			if bits&v == 0 || bits&(r+x) == 0 || bits&(w+r) == w {
				continue
			}
			l := s.on.with(s.at, entry(5<<18, bits))
			l[s.at-8], l[s.at+8], l[s.at+4096-at(0, 8)] = entry(6, v+r), entry(7, v+r), all
			m := l.laid(5)
			leaf, f := walk.Look(m, 1, s.addr, api.Load)
			if f.Is || leaf.Level != s.level || leaf.At != s.at {
				t.Fatalf("at the level %d %#x: %+v, %+v", s.level, bits, leaf, f)
			}
			for dirty, more := range map[bool]uint64{false: a, true: a + d} {
				n, got := walk.Mark(m, leaf, dirty)
				want := leaf
				want.Pte.A, want.Pte.D = true, dirty || bits&d != 0
				if got != want || !same(n, l.with(s.at, l[s.at]|more).laid(5)) {
					t.Fatalf("at the level %d %#x, dirty %v: %+v, %x", s.level, bits, dirty, got, n)
				}
			}
		}
	}
}

// P10.2: a walk of each way to a page of each permission that may be, with and without A, D and G, at each level: marked, where it permits that, else the page fault of that kind; and a second one behind it.
func TestWalk(t *testing.T) {
	for _, s := range spots() {
		for bits := uint64(v); bits < 256; bits += 2 {
			if bits&(r+x) == 0 || bits&(w+r) == w {
				continue
			}
			l := s.on.with(s.at, entry(1<<18, bits)+0x200)
			m := l.laid(4)
			for _, way := range ways() {
				n, leaf, f := walk.Walk(m, 1, s.addr, way)
				if !permits(bits, way) {
					if !same(n, m) || leaf != (api.Leaf{}) || f != fault(page, way.Kind, s.addr) {
						t.Fatalf("at the level %d %#x, %+v: %x, %+v, %+v", s.level, bits, way, n, leaf, f)
					}
					continue
				}
				more := uint64(a)
				if way.Kind == api.Store {
					more = a + d
				}
				k := l.with(s.at, l[s.at]|more)
				want := k.told(4, 1, s.addr).leaf()
				if !same(n, k.laid(4)) || leaf != want || f != (api.Fault{}) {
					t.Fatalf("at the level %d %#x, %+v: %x, %+v, %+v", s.level, bits, way, n, leaf, f)
				}
				again, leaf, f := walk.Walk(n, 1, s.addr, way)
				if !same(again, n) || leaf != want || f != (api.Fault{}) {
					t.Fatalf("at the level %d %#x, %+v, again: %x, %+v, %+v", s.level, bits, way, again, leaf, f)
				}
			}
		}
	}
}

// P10.2, P10.3: every address of some tables is walked, each on what the walks ahead of it left: what they answer, and that nothing but A and D of the leaf has changed.
func TestWalkEverywhere(t *testing.T) {
	l := some()
	m := l.laid(frames)
	for i, addr := range addresses() {
		way := ways()[(i+i/24)%24]
		want := l.told(frames, root, addr)
		if want.sort == none && !permits(want.word, way) {
			want = end{sort: page}
		}
		if want.sort == none {
			more := uint64(a)
			if way.Kind == api.Store {
				more = a + d
			}
			l[want.at] |= more
			want.word |= more
		}
		n, leaf, f := walk.Walk(m, root, addr, way)
		if leaf != want.leaf() || f != fault(want.sort, way.Kind, addr) {
			t.Fatalf("%#x, %+v: %+v, %+v, not %+v", addr, way, leaf, f, want)
		}
		if !same(n, l.laid(frames)) || !mem.Right(n) {
			t.Fatalf("%#x, %+v: %x, not %x", addr, way, n, l.laid(frames))
		}
		m = n
	}
	if same(m, some().laid(frames)) {
		t.Error("nothing was marked")
	}
}

// P10.3: walks one behind the other: a load sets A alone, a store then D, too, and a load behind that takes neither away.
func TestOneBehindTheOther(t *testing.T) {
	const was = v + r + w + x
	l := words{at(0, 0): entry(1<<18, was)}
	m := l.laid(1)
	for i, c := range []struct {
		way  api.Way
		bits uint64
		sort int
	}{
		{api.Way{Kind: api.Store}, was, page},
		{api.Way{Kind: api.Load, Priv: api.Super}, was + a, none},
		{api.Way{Kind: api.Fetch, Priv: api.Super}, was + a, none},
		{api.Way{Kind: api.Store, Priv: api.Super}, was + a + d, none},
		{api.Way{Kind: api.Store, Priv: api.Super}, was + a + d, none},
		{api.Way{Kind: api.Load, Priv: api.Super, Mxr: true}, was + a + d, none},
		{api.Way{Kind: api.Fetch, Sum: true}, was + a + d, page},
		{api.Way{Kind: api.Fetch, Priv: api.Super, Sum: true}, was + a + d, none},
	} {
		n, leaf, f := walk.Walk(m, 0, 0x1234, c.way)
		if f != fault(c.sort, c.way.Kind, 0x1234) || !same(n, l.with(0, entry(1<<18, c.bits)).laid(1)) {
			t.Errorf("%d: %x, %+v", i, n, f)
		}
		if c.sort == none && (pteBits(leaf.Pte) != c.bits || walk.Physical(leaf, 0x1234) != 1<<30+0x1234) {
			t.Errorf("%d: %+v", i, leaf)
		}
		m = n
	}
}

// P10.3: in a table that links to itself an entry is the leaf of each level, by as many links; the entry alone is marked, and a link never ends a walk well.
func TestTableOfItself(t *testing.T) {
	l := words{at(0, 511): entry(0, v), at(0, 5): entry(512<<9, v+r+w), at(0, 6): entry(1, v)}
	for _, c := range []struct {
		addr  uint64
		level int
		index uint64
	}{{address(5, 1, 2, 3), 2, 5}, {address(511, 5, 2, 3), 1, 5}, {address(511, 511, 5, 3), 0, 5}} {
		m, leaf, f := walk.Walk(l.laid(2), 0, c.addr, api.Way{Kind: api.Store, Priv: api.Super})
		if f.Is || leaf.Level != c.level || leaf.At != at(0, c.index) || !same(m, l.with(at(0, 5), entry(512<<9, v+r+w+a+d)).laid(2)) {
			t.Errorf("%#x: %x, %+v, %+v", c.addr, m, leaf, f)
		}
	}
	for _, addr := range []uint64{address(511, 511, 511, 0), address(511, 511, 6, 0)} {
		m, leaf, f := walk.Walk(l.laid(2), 0, addr, api.Way{Kind: api.Store, Priv: api.Super})
		if f != fault(page, api.Store, addr) || leaf != (api.Leaf{}) || !same(m, l.laid(2)) {
			t.Errorf("%#x: %x, %+v, %+v", addr, m, leaf, f)
		}
	}
}

// behind answers m with room behind its list's length, and that room, which is written full.
func behind(m api.Mem) (api.Mem, []api.Cell) {
	row := make([]api.Cell, len(m.Cells)+4)
	for i := range row {
		row[i] = api.Cell{At: 900 + uint64(i), Val: 0xee}
	}
	copy(row, m.Cells)
	return api.Mem{Size: m.Size, Cells: row[:len(m.Cells)]}, row
}

// answering is a call that answers a memory, and whether that is another one than before.
type answering struct {
	what    string
	changes bool
	call    func(m api.Mem) api.Mem
}

// calls are such calls: of leaves that are marked, that were marked already, and of faults.
func calls() []answering {
	walked := func(addr uint64, way api.Way) func(m api.Mem) api.Mem {
		return func(m api.Mem) api.Mem {
			n, _, _ := walk.Walk(m, root, addr, way)
			return n
		}
	}
	marked := func(addr uint64, dirty bool) func(m api.Mem) api.Mem {
		return func(m api.Mem) api.Mem {
			l, _ := walk.Look(m, root, addr, api.Load)
			n, _ := walk.Mark(m, l, dirty)
			return n
		}
	}
	load, store := api.Way{Kind: api.Load, Priv: api.Super}, api.Way{Kind: api.Store, Priv: api.Super}
	return []answering{
		{"A", true, walked(0x5000, load)},
		{"A and D", true, walked(0x5000, store)},
		{"A of a middle page", true, walked(0x200000, api.Way{Kind: api.Load})},
		{"A and D of a large page", true, walked(0x40000000, store)},
		{"A by a link with G", true, walked(0xffffffffc0005000, load)},
		{"marked", true, marked(0x5000, false)},
		{"marked dirty", true, marked(0x5000, true)},
		{"D beside A", true, marked(0, true)},
		{"A is there already", false, walked(0, load)},
		{"A and D are there already", false, walked(0x1ff000, api.Way{Kind: api.Store})},
		{"A is there already, marked", false, marked(0, false)},
		{"A and D are there already, marked dirty", false, marked(0x1ff000, true)},
		{"it isn't permitted", false, walked(0x5000, api.Way{Kind: api.Store})},
		{"not canonical", false, walked(1<<39, load)},
		{"no page", false, walked(0x6000, store)},
		{"no memory", false, walked(0x100000000, store)},
	}
}

// P10.4: what is handed in stays, the room behind its length included; what is answered is what it is to be.
func TestHandedInStays(t *testing.T) {
	for _, c := range calls() {
		m, row := behind(some().laid(frames))
		was := slices.Clone(row)
		n := c.call(m)
		if !slices.Equal(row, was) {
			t.Errorf("%s: it left %x", c.what, row)
		}
		if same(n, m) == c.changes {
			t.Errorf("%s: answered is %x", c.what, n)
		}
	}
	m, row := behind(some().laid(frames))
	was := slices.Clone(row)
	for _, addr := range addresses() {
		walk.Look(m, root, addr, api.Store)
	}
	if !slices.Equal(row, was) {
		t.Errorf("looked at, it is %x", row)
	}
}

// P10.4: a memory that is another one than before is new: what is written into it, or behind it, is not seen in what was handed in, nor in another answer.
func TestAnswersAreNew(t *testing.T) {
	for _, c := range calls() {
		if !c.changes {
			continue
		}
		m, row := behind(some().laid(frames))
		was := slices.Clone(row)
		n, other := c.call(m), c.call(m)
		kept := slices.Clone(other.Cells)
		full := n.Cells[:cap(n.Cells)]
		for i := range full {
			full[i] = api.Cell{At: 77, Val: 77}
		}
		if !slices.Equal(row, was) {
			t.Errorf("%s: what was handed in is %x", c.what, row)
		}
		if !slices.Equal(other.Cells, kept) {
			t.Errorf("%s: another answer is %x", c.what, other)
		}
		if again := c.call(m); !slices.Equal(again.Cells, kept) {
			t.Errorf("%s: the next answer is %x", c.what, again)
		}
	}
}

// P10.4: what was handed in is kept nowhere: when it has changed, the next call sees it as it is.
func TestNothingIsKept(t *testing.T) {
	m := words{at(0, 0): entry(1<<18, v+r)}.laid(1)
	way := api.Way{Kind: api.Load, Priv: api.Super}
	n, before, _ := walk.Walk(m, 0, 5, way)
	m.Cells[0].Val = entry(2<<18, v+x)
	if n.Cells[0].Val != entry(1<<18, v+r+a) {
		t.Errorf("an answer changed: %x", n)
	}
	_, l, f := walk.Walk(m, 0, 5, way)
	if f != fault(page, api.Load, 5) || l != (api.Leaf{}) {
		t.Errorf("a page that changed: %+v, %+v", l, f)
	}
	if l, _ = walk.Look(m, 0, 5, api.Load); l.Pte.Ppn != 2<<18 || before.Pte.Ppn != 1<<18 {
		t.Errorf("a page that changed: %+v, %+v", l, before)
	}
}

// Nil and empty lists are one, handed in.
func TestNilAndEmpty(t *testing.T) {
	for _, cells := range [][]api.Cell{nil, {}} {
		m := api.Mem{Size: 4096, Cells: cells}
		n, l, f := walk.Walk(m, 0, 5, api.Way{Kind: api.Store, Priv: api.Super})
		if !same(n, m) || l != (api.Leaf{}) || f != fault(page, api.Store, 5) {
			t.Errorf("%v: %v, %+v, %+v", cells, n, l, f)
		}
	}
}

// The chapter's example: by a leaf of 1 GiB of the frame 0, a load of 5 ends at the level 2, at 5.
func TestExample(t *testing.T) {
	m, _ := mem.New(4096)
	e, _ := pte.Put(pte.Make(0, api.Perm{R: true}, false))
	m, _ = mem.Store(m, 0, 8, e)
	_, l, f := walk.Walk(m, 0, 5, api.Way{Kind: api.Load, Priv: api.Super})
	if f.Is || l.Level != api.Large || l.At != 0 || walk.Physical(l, 5) != 5 {
		t.Errorf("%+v, %+v, %#x", l, f, walk.Physical(l, 5))
	}
}

// Every call ends and none panics, also of what the chapter promises nothing of: kinds and ways that are none, roots far beyond, memories that aren't right, leaves that nobody told.
func TestNoPanic(t *testing.T) {
	ends := []uint64{0, 1, 4, 8, 511, 4096, 1 << 28, 1 << 44, 1 << 52, 1 << 63, all - 7, all}
	off := []int{math.MinInt, -1, 0, 1, 2, 3, 64, math.MaxInt}
	for _, m := range []api.Mem{
		{},
		some().laid(frames),
		{Size: 100, Cells: []api.Cell{{At: 11, Val: all}, {At: 12, Val: 1}}},
		{Size: all, Cells: []api.Cell{{At: 0, Val: 1}, {At: all, Val: 1}}},
		{Size: 4096, Cells: []api.Cell{{At: 9, Val: 1}, {At: 1, Val: 1}, {At: 0, Val: 1}}},
	} {
		for _, from := range ends {
			for _, addr := range ends {
				for _, n := range off {
					walk.Look(m, from, addr, n)
					walk.Walk(m, from, addr, api.Way{Kind: n, Priv: api.Super})
					walk.Walk(m, from, addr, api.Way{Kind: api.Store, Priv: n})
					l := api.Leaf{Level: n, At: addr, Pte: api.Pte{R: true, Rsw: from, Ppn: from, High: from}}
					walk.Physical(l, addr)
					walk.Mark(m, l, n == 1)
				}
			}
		}
	}
}
