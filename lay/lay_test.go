package lay_test

import (
	"fmt"
	"math"
	"slices"
	"testing"

	"atlas/api"
	"atlas/hart"
	"atlas/lay"
	"atlas/space"
	"atlas/walk"
)

const all = ^uint64(0)

// The bits of an entry's word, told as numbers.
const (
	v = 1
	r = 2
	w = 4
	x = 8
	u = 0x10
	g = 0x20
	a = 0x40
	d = 0x80
	// soft is one of Rsw.
	soft = 1 << 9
)

// top is the first address of the index 511 at the level 2.
const top = 0xffffffffc0000000

// levels are the bytes of a page, spans its frames.
var (
	levels = []uint64{1 << 12, 1 << 21, 1 << 30}
	spans  = []uint64{1, 1 << 9, 1 << 18}
)

// rw, ro, xo and no are permissions; no may not be.
var (
	rw = api.Perm{R: true, W: true, U: true}
	ro = api.Perm{R: true}
	xo = api.Perm{X: true, U: true}
	no = api.Perm{W: true, X: true, U: true}
)

// at tells where the entry of that index is in the table of that frame.
func at(frame, index uint64) uint64 {
	return frame*4096 + index*8
}

// word tells the word of an entry of that frame.
func word(frame, bits uint64) uint64 {
	return frame*1024 + bits
}

// address tells the canonical address of these indexes.
func address(high, mid, low uint64) uint64 {
	addr := ((high*512+mid)*512 + low) * 4096
	if high >= 256 {
		addr += all - (1<<39 - 1)
	}
	return addr
}

// bits tells what p sets in an entry's word.
func bits(p api.Perm) (n uint64) {
	for bit, on := range map[uint64]bool{r: p.R, w: p.W, x: p.X, u: p.U} {
		if on {
			n += bit
		}
	}
	return n
}

// perms are all permissions, and whether they may be.
func perms() map[api.Perm]bool {
	l := map[api.Perm]bool{}
	for n := range 16 {
		p := api.Perm{R: n&1 != 0, W: n&2 != 0, X: n&4 != 0, U: n&8 != 0}
		// R; X; both; R and W; all three
		l[p] = n%8 == 1 || n%8 == 4 || n%8 == 5 || n%8 == 3 || n%8 == 7
	}
	return l
}

// words are a memory's words that aren't 0, by their addresses.
type words map[uint64]uint64

// cells tells the words as a memory's cells.
func (l words) cells() []api.Cell {
	row := []api.Cell{}
	for at, val := range l {
		if val != 0 {
			row = append(row, api.Cell{At: at / 8, Val: val})
		}
	}
	slices.SortFunc(row, func(a, b api.Cell) int { return int(a.At) - int(b.At) })
	return row
}

// kernel is one that is told: its memory by its words, all else as it stands.
type kernel struct {
	words words
	api.Kernel
}

// row tells the list with room behind it.
func row[T any](l []T, room T) []T {
	return append(slices.Clone(l), room, room)[:len(l)]
}

// made tells the kernel, of lists that all have room behind them.
func (k kernel) made() api.Kernel {
	n := k.Kernel
	n.Mem = api.Mem{Size: uint64(k.Conf.Data+k.Conf.Pool) * 4096, Cells: row(k.words.cells(), api.Cell{At: 901, Val: 0xee})}
	n.Hart.Tlb.Sets = row(k.Hart.Tlb.Sets, api.Set{Tree: 5})
	n.Spaces = row(k.Spaces, api.Space{Root: 77, Asid: 7, Live: true})
	n.Fences = row(k.Fences, api.Fence{HasAddr: true, Addr: 88})
	return n
}

// but tells the kernel in memory of its own, with other words.
func (k kernel) but(other words) kernel {
	n := words{}
	for at, val := range k.words {
		n[at] = val
	}
	for at, val := range other {
		n[at] = val
	}
	k.words = n
	return k
}

// told tells a kernel that was answered.
func told(k api.Kernel) kernel {
	l := words{}
	for _, c := range k.Mem.Cells {
		l[c.At*8] = c.Val
	}
	return kernel{l, k}
}

// lives tells whether a space of that id lives.
func (k kernel) lives(id int) bool {
	return id >= 0 && id < len(k.Spaces) && k.Spaces[id].Live
}

// where tells the top of the tree of the address, as chapter 21 has it.
func (k kernel) where(id int, addr uint64, level int) (uint64, int, api.Errno) {
	switch {
	case level < 0 || level > 2:
		return 0, 0, api.ErrArg
	case id != -1 && !k.lives(id):
		return 0, 0, api.ErrSpace
	case addr>>38 != 0 && addr>>38 != 1<<26-1, addr%levels[level] != 0:
		return 0, 0, api.ErrAlign
	case id == -1 && (addr < top || level == 2), id != -1 && addr >= top:
		return 0, 0, api.ErrRange
	case id == -1:
		return k.Shared, 1, api.OK
	}
	return k.Spaces[id].Root, 2, api.OK
}

// least tells the least of the bits that is set, and 64 if none is.
func least(bits uint64) int {
	for i := range 64 {
		if bits>>i&1 == 1 {
			return i
		}
	}
	return 64
}

// laid tells the kernel in which the page is laid, as the chapter has it.
func (k kernel) laid(id int, addr, pa uint64, level int, p api.Perm) (kernel, api.Errno) {
	frame, high, wrong := k.where(id, addr, level)
	if wrong != api.OK {
		return k, wrong
	}
	data := uint64(k.Conf.Data) * 4096
	switch {
	case pa%levels[level] != 0:
		return k, api.ErrAlign
	case pa >= data || data-pa < levels[level]:
		return k, api.ErrRange
	case !perms()[p]:
		return k, api.ErrPerm
	}
	n := k.but(nil)
	for l := high; l > level; l-- {
		place := at(frame, addr/levels[l]%512)
		if n.words[place]&v != 0 && n.words[place]&(r+x) != 0 {
			return k, api.ErrOver
		}
		if n.words[place]&v == 0 {
			i := least(n.Pool.Free)
			if i == 64 {
				return k, api.ErrFrames
			}
			n.Pool.Free -= 1 << i
			fresh := n.Pool.Base + uint64(i)
			for i := range uint64(512) {
				delete(n.words, at(fresh, i))
			}
			n.words[place] = word(fresh, v)
		}
		frame = n.words[place] >> 10
	}
	place := at(frame, addr/levels[level]%512)
	if n.words[place] != 0 {
		return k, api.ErrOver
	}
	n.words[place] = word(pa/4096, v+bits(p))
	if id == -1 {
		n.words[place] += g
	}
	return n, api.OK
}

// listed tells the pages of a space, or those of all, as the chapter has them.
func (k kernel) listed(id int) []api.Page {
	if id == -1 {
		return k.under(k.Shared, 1, [3]uint64{511}, 512)
	}
	if !k.lives(id) {
		return nil
	}
	return k.under(k.Spaces[id].Root, 2, [3]uint64{}, 511)
}

// under tells the pages of a table, of so many of its indexes; the indexes above it are told.
func (k kernel) under(frame uint64, level int, indexes [3]uint64, most uint64) (l []api.Page) {
	for i := range most {
		indexes[2-level] = i
		e := k.words[at(frame, i)]
		switch {
		case e&v == 0:
		case e&(r+x) == 0:
			l = append(l, k.under(e>>10, level-1, indexes, 512)...)
		default:
			p := api.Perm{R: e&r != 0, W: e&w != 0, X: e&x != 0, U: e&u != 0}
			l = append(l, api.Page{Va: address(indexes[0], indexes[1], indexes[2]), Pa: e >> 10 * 4096, Level: level, Perm: p, Stored: e&d != 0})
		}
	}
	return l
}

// same tells whether two kernels are the same; nil and empty lists are one.
func same(k, l api.Kernel) bool {
	return k.Conf == l.Conf && k.Mem.Size == l.Mem.Size && slices.Equal(k.Mem.Cells, l.Mem.Cells) && k.Pool == l.Pool && k.Asids == l.Asids &&
		slices.Equal(k.Spaces, l.Spaces) && k.Now == l.Now && k.Shared == l.Shared && slices.Equal(k.Fences, l.Fences) && like(k.Hart, l.Hart)
}

// like tells whether two harts are the same.
func like(h, i api.Hart) bool {
	return slices.Equal(h.Tlb.Sets, i.Tlb.Sets) && h.Satp == i.Satp && h.Priv == i.Priv && h.Sum == i.Sum && h.Mxr == i.Mxr && h.Victim == i.Victim
}

// hold holds what a call answered against what is told.
func hold(t *testing.T, name string, k, want api.Kernel, e, wrong api.Errno) {
	t.Helper()
	if e != wrong || !same(k, want) {
		t.Fatalf("%s is\n%+v\n%d, not\n%+v\n%d", name, k, e, want, wrong)
	}
}

// maps holds Map against what is told, and answers that.
func maps(t *testing.T, old kernel, id int, addr, pa uint64, level int, p api.Perm) (kernel, api.Errno) {
	t.Helper()
	want, wrong := old.laid(id, addr, pa, level, p)
	k, e := lay.Map(old.made(), id, addr, pa, level, p)
	hold(t, fmt.Sprintf("Map(%d, %#x, %#x, %d, %+v)", id, addr, pa, level, p), k, want.made(), e, wrong)
	return want, wrong
}

// lists holds List against what is told.
func lists(t *testing.T, name string, k api.Kernel, id int, want []api.Page) {
	t.Helper()
	if l := lay.List(k, id); !slices.Equal(l, want) {
		t.Fatalf("%s: List(%d) is\n%+v, not\n%+v", name, id, l, want)
	}
}

// The frames of the kernel in the midst of things.
const (
	common = 1<<19 + iota
	zero
	one
	f3
	f4
	f5
	f6
	f7
)

// midst tells a kernel in the midst of things: 2^19 frames of data, and 8 of tables, of which these are free. The spaces 0 and 2 live, of the roots zero and one; the space 1 was destroyed, the space 2 is the current one.
func midst(free uint64, other words) kernel {
	k := kernel{words{at(0, 3): 8, at(3, 511): all, at(zero, 511): word(common, v+g), at(one, 511): word(common, v+g)}, api.Kernel{
		Conf: api.Conf{Data: 1 << 19, Pool: 8, Asids: 4, Sets: 1},
		Hart: api.Hart{
			Tlb:  api.Tlb{Sets: []api.Set{{Ways: [4]api.Entry{1: {Valid: true, Asid: 2, Vpn: 5, Ppn: 3, Perm: ro}, 3: {Valid: true, Global: true, Vpn: 1<<27 - 1}}, Tree: 3}}},
			Satp: api.Satp{Mode: 8, Asid: 2, Ppn: one}, Priv: api.Super, Sum: true, Mxr: true, Victim: 2,
		},
		Pool:   api.Pool{Base: common, Many: 8, Free: free},
		Asids:  api.Asids{Many: 4, Free: 0b1100, Owned: 0b0111},
		Spaces: []api.Space{{Root: zero, Asid: 1, Live: true}, {}, {Root: one, Asid: 2, Live: true}},
		Now:    2,
		Shared: common,
		Fences: []api.Fence{{HasAsid: true, Asid: 2}, {}},
	}}
	return k.but(other)
}

// lays are cases of Map that end well, in the midst of things.
var lays = []struct {
	id         int
	addr, pa   uint64
	level      int
	p          api.Perm
	words      words
	free, left uint64
	put        words
}{
	// no table is on the way: one is taken for each level
	{0, 0x5000, 0x3000, 0, rw, nil, 0b11111000, 0b11100000, words{at(zero, 0): word(f3, v), at(f3, 0): word(f4, v), at(f4, 5): word(3, v+r+w+u)}},
	{0, 0x400000, 0x600000, 1, xo, nil, 0b11111000, 0b11110000, words{at(zero, 0): word(f3, v), at(f3, 2): word(0x600, v+x+u)}},
	{0, 0x40000000, 0x40000000, 2, ro, nil, 0b11111000, 0b11111000, words{at(zero, 1): word(1<<18, v+r)}},
	{2, 0x7f5000, 0x3000, 0, ro, nil, 0b11111000, 0b11100000, words{at(one, 0): word(f3, v), at(f3, 3): word(f4, v), at(f4, 501): word(3, v+r)}},
	{2, 0, 0, 1, rw, nil, 0b11111000, 0b11110000, words{at(one, 0): word(f3, v), at(f3, 0): word(0, v+r+w+u)}},
	{2, 0, 0, 2, xo, nil, 0, 0, words{at(one, 0): word(0, v+x+u)}},
	{-1, top, 0x3000, 0, rw, nil, 0b11111000, 0b11110000, words{at(common, 0): word(f3, v), at(f3, 0): word(3, v+r+w+u+g)}},
	{-1, top, 0x200000, 1, ro, nil, 0b11111000, 0b11111000, words{at(common, 0): word(0x200, v+r+g)}},
	// frames that are free, not one behind the other; just as many as are wanted
	{0, 0x5000, 0, 0, ro, nil, 0b10100000, 0, words{at(zero, 0): word(f5, v), at(f5, 0): word(f7, v), at(f7, 5): word(0, v+r)}},
	{0, 0x5000, 0, 0, ro, nil, 0b11010000, 0b10000000, words{at(zero, 0): word(f4, v), at(f4, 0): word(f6, v), at(f6, 5): word(0, v+r)}},
	{0, 0x200000, 0, 1, ro, nil, 0b10000000, 0, words{at(zero, 0): word(f7, v), at(f7, 1): word(0, v+r)}},
	{-1, all - 4095, 0, 0, xo, nil, 0b01000000, 0, words{at(common, 511): word(f6, v), at(f6, 511): word(0, v+x+u+g)}},
	// some are on the way
	{0, 0x5000, 0x3000, 0, rw, words{at(zero, 0): word(f6, v)}, 0b00011000, 0b00010000, words{at(f6, 0): word(f3, v), at(f3, 5): word(3, v+r+w+u)}},
	{0, 0x5000, 0x3000, 0, rw, words{at(zero, 0): word(f6, v), at(f6, 1): word(f5, v), at(f5, 5): word(1, v+r)}, 0b00011000, 0b00010000, words{at(f6, 0): word(f3, v), at(f3, 5): word(3, v+r+w+u)}},
	{0, 0x5000, 0x3000, 0, rw, words{at(zero, 1): word(f6, v), at(f6, 0): word(f5, v), at(f5, 5): word(1, v+r)}, 0b00011000, 0, words{at(zero, 0): word(f3, v), at(f3, 0): word(f4, v), at(f4, 5): word(3, v+r+w+u)}},
	// all are on the way
	{0, 0x5000, 0x3000, 0, rw, words{at(zero, 0): word(f6, v), at(f6, 0): word(f5, v), at(f5, 4): word(1, v+r)}, 0b10000000, 0b10000000, words{at(f5, 5): word(3, v+r+w+u)}},
	{0, 0x5000, 0x3000, 0, rw, words{at(zero, 0): word(f6, v+soft), at(f6, 0): word(f5, v+g), at(f5, 6): word(1, v+r)}, 0, 0, words{at(f5, 5): word(3, v+r+w+u)}},
	{2, 0x400000, 0x200000, 1, ro, words{at(one, 0): word(f6, v), at(f6, 1): word(0x200, v+r), at(f6, 3): word(f7, v), at(f7, 0): word(1, v+r)}, 0, 0, words{at(f6, 2): word(0x200, v+r)}},
	{-1, top + 0x5000, 0x1000, 0, ro, words{at(common, 0): word(f6, v), at(f6, 4): word(1, v+r+g)}, 0b10000000, 0b10000000, words{at(f6, 5): word(1, v+r+g)}},
	{-1, top + 0x200000, 0, 1, xo, words{at(common, 0): word(f6, v), at(f6, 4): word(1, v+r+g), at(common, 2): word(0x200, v+r+g)}, 0, 0, words{at(common, 1): word(0, v+x+u+g)}},
	// what is beside the page, close to it, and as great
	{0, 0x40000000, 0, 2, ro, words{at(zero, 0): word(0, v+r), at(zero, 2): word(f6, v), at(f6, 0): word(0, v+r)}, 0, 0, words{at(zero, 1): word(0, v+r)}},
	{0, address(1, 1, 0), 0, 1, ro, words{at(zero, 0): word(0, v+r), at(zero, 2): word(0, v+r), at(zero, 1): word(f6, v), at(f6, 0): word(0, v+r), at(f6, 2): word(0, v+r)}, 0, 0, words{at(f6, 1): word(0, v+r)}},
	// where the other space has something, and where all have: that isn't in this one's way
	{0, 0x5000, 0x3000, 0, rw, words{at(one, 0): word(0, v+r), at(common, 0): word(0, v+r+g)}, 0b11111000, 0b11100000, words{at(zero, 0): word(f3, v), at(f3, 0): word(f4, v), at(f4, 5): word(3, v+r+w+u)}},
	{2, 0x5000, 0x3000, 0, rw, words{at(zero, 0): word(f6, v), at(f6, 0): word(f5, v), at(f5, 5): word(3, v+r)}, 0b00011000, 0, words{at(one, 0): word(f3, v), at(f3, 0): word(f4, v), at(f4, 5): word(3, v+r+w+u)}},
	// the ends of both halves
	{0, address(255, 511, 511), 0, 0, rw, nil, 0b11111000, 0b11100000, words{at(zero, 255): word(f3, v), at(f3, 511): word(f4, v), at(f4, 511): word(0, v+r+w+u)}},
	{0, address(256, 0, 0), 0, 0, rw, nil, 0b11111000, 0b11100000, words{at(zero, 256): word(f3, v), at(f3, 0): word(f4, v), at(f4, 0): word(0, v+r+w+u)}},
	{0, top - 4096, 0, 0, rw, nil, 0b11111000, 0b11100000, words{at(zero, 510): word(f3, v), at(f3, 511): word(f4, v), at(f4, 511): word(0, v+r+w+u)}},
	{0, top - 1<<21, 0, 1, rw, nil, 0b11111000, 0b11110000, words{at(zero, 510): word(f3, v), at(f3, 511): word(0, v+r+w+u)}},
	{0, top - 1<<30, 0, 2, rw, nil, 0b11111000, 0b11111000, words{at(zero, 510): word(0, v+r+w+u)}},
	{-1, all - 1<<21 + 1, 0, 1, rw, nil, 0b11111000, 0b11111000, words{at(common, 511): word(0, v+r+w+u+g)}},
}

// P22.1: the page that is laid, and the tables that are taken, written out; nothing else is another, no fence is done.
func TestMap(t *testing.T) {
	for i, c := range lays {
		for _, now := range []int{2, 0, -1} {
			old := midst(c.free, c.words)
			old.Now = now
			want := old.but(c.put)
			want.Pool.Free = c.left
			k, e := lay.Map(old.made(), c.id, c.addr, c.pa, c.level, c.p)
			hold(t, fmt.Sprintf("%d: Map(%d, %#x, %#x, %d)", i, c.id, c.addr, c.pa, c.level), k, want.made(), e, api.OK)
			maps(t, old, c.id, c.addr, c.pa, c.level, c.p)
		}
	}
}

// P22.1: the tables that are taken are empty, whatever was in their frames.
func TestMapOfFramesThatHold(t *testing.T) {
	junk := words{}
	for f := uint64(f3); f <= f7; f++ {
		junk[at(f, 0)], junk[at(f, 1)], junk[at(f, 5)], junk[at(f, 511)] = word(f, v), all, word(1, v+r), f
	}
	old := midst(0b11111000, junk)
	for _, c := range []struct {
		id    int
		addr  uint64
		level int
		taken int
	}{{0, 0x5000, 0, 2}, {2, 0, 0, 2}, {0, all - 1<<30 - 4095, 0, 2}, {0, 0x200000, 1, 1}, {-1, top + 0x5000, 0, 1}, {-1, top, 1, 0}, {2, 0, 2, 0}} {
		want, wrong := maps(t, old, c.id, c.addr, 0, c.level, ro)
		if len(want.words) != 4+5*4-c.taken*4+c.taken+1 || wrong != api.OK {
			t.Errorf("Map(%d, %#x, %d) is told %d, of %d words", c.id, c.addr, c.level, wrong, len(want.words))
		}
	}
}

// P22.1: all permissions, at each level: the bits that they set; G of the id -1 alone, A and D of none.
func TestPerms(t *testing.T) {
	for p, may := range perms() {
		for _, c := range []struct {
			id    int
			level int
			addr  uint64
			place uint64
			bits  uint64
		}{{0, 0, 0x5000, at(f4, 5), v}, {0, 1, 0x200000, at(f3, 1), v}, {2, 2, 0x40000000, at(one, 1), v}, {2, 0, 0, at(f4, 0), v}, {-1, 0, all - 4095, at(f3, 511), v + g}, {-1, 1, top, at(common, 0), v + g}} {
			old := midst(0b11111000, nil)
			k, e := lay.Map(old.made(), c.id, c.addr, 0x40000000, c.level, p)
			if !may {
				hold(t, fmt.Sprintf("Map of %+v", p), k, old.made(), e, api.ErrPerm)
				continue
			}
			if want := word(1<<18, c.bits+bits(p)); e != api.OK || told(k).words[c.place] != want {
				t.Errorf("Map(%d, %d) of %+v is %d and %#x, not %#x", c.id, c.level, p, e, told(k).words[c.place], want)
			}
			maps(t, old, c.id, c.addr, 0x40000000, c.level, p)
		}
	}
}

// P22.1: the first and the last page of the data, the one whose last byte is beyond it, and those that are far beyond, at each level.
func TestData(t *testing.T) {
	for data, whole := range map[int][3]uint64{
		1: {1}, 2: {2}, 3: {3}, 511: {511}, 512: {512, 1}, 513: {513, 1}, 1023: {1023, 1}, 1024: {1024, 2}, 1025: {1025, 2},
		1<<18 - 1: {1<<18 - 1, 511}, 1 << 18: {1 << 18, 512, 1}, 1<<18 + 1: {1<<18 + 1, 512, 1}, 1<<18 + 512: {1<<18 + 512, 513, 1}, 1<<19 - 1: {1<<19 - 1, 1023, 1}, 1 << 19: {1 << 19, 1024, 2},
	} {
		k, _ := space.New(api.Conf{Data: data, Pool: 4, Asids: 1})
		k, _, _ = space.Create(k)
		old := told(k)
		for level, n := range whole {
			size := levels[level]
			for _, pa := range []uint64{0, size, n * size, n*size - size, n*size + size, uint64(data) * 4096, uint64(data)*4096 + 4096, 1 << 31, 1 << 32, 1 << 39, 1 << 40, 1 << 44, 1 << 55, 1 << 56, 1 << 63, 1<<63 - size, 1<<63 + size, all - size + 1} {
				if pa%size != 0 {
					continue
				}
				for _, id := range []int{0, -1} {
					addr := top - size
					if id == -1 {
						addr = top
					}
					want := api.OK
					switch {
					case id == -1 && level == 2, pa/size >= n:
						want = api.ErrRange
					}
					if n, e := maps(t, old, id, addr, pa, level, rw); e != want {
						t.Errorf("of %d frames Map(%d, %#x, %#x, %d) is told %d, not %d", data, id, addr, pa, level, e, want)
					} else if e == api.OK {
						lists(t, "the page", n.made(), id, []api.Page{{Va: addr, Pa: pa, Level: level, Perm: rw}})
					}
				}
			}
		}
	}
}

// P22.1: a pa that is no multiple of the page's size, within the data and beyond it.
func TestAlign(t *testing.T) {
	old := midst(0b11111000, nil)
	for level, size := range levels {
		for _, pa := range []uint64{1, 8, size / 2, size - 1, size + 1, size + size/2, 1<<31 - 1, 1<<31 - size/2, 1<<31 + 1, 1<<63 + size/2, all, all - size/2 + 1} {
			for _, id := range []int{0, -1} {
				addr, want := uint64(top-levels[2]), api.ErrAlign
				if id == -1 {
					addr = top
				}
				if id == -1 && level == 2 {
					want = api.ErrRange
				}
				k, e := lay.Map(old.made(), id, addr, pa, level, rw)
				hold(t, fmt.Sprintf("Map(%d, %#x, %#x, %d)", id, addr, pa, level), k, old.made(), e, want)
			}
		}
	}
	// multiples of a lesser page's size, and of none beyond the own
	for _, c := range []struct {
		pa    uint64
		level int
		want  api.Errno
	}{{0x1000, 0, api.OK}, {0x1000, 1, api.ErrAlign}, {0x1ff000, 1, api.ErrAlign}, {0x200000, 1, api.OK}, {0x201000, 1, api.ErrAlign}, {0x200000, 2, api.ErrAlign}, {0x3fe00000, 2, api.ErrAlign}, {0x40000000, 2, api.OK}, {0x40000000, 0, api.OK}} {
		if _, e := maps(t, old, 0, 0, c.pa, c.level, ro); e != c.want {
			t.Errorf("Map of %#x, %d is told %d, not %d", c.pa, c.level, e, c.want)
		}
	}
}

// overs are cases in which something lies in the page, or it in something.
var overs = []struct {
	id    int
	level int
	addr  uint64
	words words
}{
	// a leaf is at the level: the page itself
	{0, 0, 0x5000, words{at(zero, 0): word(f3, v), at(f3, 0): word(f4, v), at(f4, 5): word(3, v+r+w+u)}},
	{0, 0, 0x5000, words{at(zero, 0): word(f3, v), at(f3, 0): word(f4, v), at(f4, 5): word(3, v+x+a+d)}},
	{0, 1, 0x200000, words{at(zero, 0): word(f3, v), at(f3, 1): word(0x200, v+r)}},
	{2, 2, 0x40000000, words{at(one, 1): word(1<<18, v+x)}},
	{-1, 0, top, words{at(common, 0): word(f3, v), at(f3, 0): word(0, v+r+g)}},
	{-1, 1, all - 1<<21 + 1, words{at(common, 511): word(0x200, v+r+w+g)}},
	// a table is there that has pages, or tables that have
	{0, 1, 0x200000, words{at(zero, 0): word(f3, v), at(f3, 1): word(f4, v), at(f4, 0): word(1, v+r)}},
	{0, 1, 0x200000, words{at(zero, 0): word(f3, v), at(f3, 1): word(f4, v), at(f4, 511): word(1, v+r)}},
	{2, 2, 0, words{at(one, 0): word(f3, v), at(f3, 1): word(0x200, v+r)}},
	{2, 2, 0, words{at(one, 0): word(f3, v), at(f3, 511): word(f4, v), at(f4, 511): word(1, v+r)}},
	{-1, 1, top, words{at(common, 0): word(f3, v), at(f3, 7): word(0, v+x+g)}},
	// a table is there that is empty
	{0, 1, 0x200000, words{at(zero, 0): word(f3, v), at(f3, 1): word(f4, v)}},
	{0, 2, 0, words{at(zero, 0): word(f3, v)}},
	{2, 2, 0, words{at(one, 0): word(f3, v+g), at(f3, 3): word(f4, v)}},
	{-1, 1, top, words{at(common, 0): word(f3, v)}},
	// what is there isn't valid, and isn't 0
	{0, 0, 0x5000, words{at(zero, 0): word(f3, v), at(f3, 0): word(f4, v), at(f4, 5): soft}},
	{0, 1, 0, words{at(zero, 0): word(f3, v), at(f3, 0): word(f4, 0)}},
	{0, 2, 0, words{at(zero, 0): r}},
	{-1, 1, top, words{at(common, 0): 1 << 63}},
	// a leaf is on the way
	{0, 0, 0x5000, words{at(zero, 0): word(0, v+r)}},
	{0, 0, 0x5000, words{at(zero, 0): word(f3, v), at(f3, 0): word(0x200, v+r+w)}},
	{0, 0, 0x3ffff000, words{at(zero, 0): word(1<<18, v+x+u)}},
	{2, 0, 0x3fe00000, words{at(one, 0): word(f3, v), at(f3, 511): word(0x200, v+x)}},
	{2, 0, 0x3ffff000, words{at(one, 0): word(f3, v), at(f3, 511): word(0x200, v+x)}},
	{2, 1, 0, words{at(one, 0): word(1<<18, v+r)}},
	{2, 1, 0x3fe00000, words{at(one, 0): word(1<<18, v+r+a+d)}},
	{-1, 0, top, words{at(common, 0): word(0x200, v+r+g)}},
	{-1, 0, all - 4095, words{at(common, 511): word(0x200, v+x+g)}},
}

// P22.1: what lies in the page, and what it lies in, whether frames lack, too, or not.
func TestOver(t *testing.T) {
	for i, c := range overs {
		for _, free := range []uint64{0b11100000, 0b10000000, 0} {
			old := midst(free, c.words)
			k, e := lay.Map(old.made(), c.id, c.addr, 0, c.level, ro)
			hold(t, fmt.Sprintf("%d: Map(%d, %#x, %d)", i, c.id, c.addr, c.level), k, old.made(), e, api.ErrOver)
			maps(t, old, c.id, c.addr, 0, c.level, ro)
		}
	}
}

// P22.1: frames lack for the first table of the way, and for the second; nothing is another then, till there are as many as are wanted.
func TestFrames(t *testing.T) {
	for _, c := range []struct {
		id    int
		addr  uint64
		level int
		words words
		free  uint64
		lack  int
	}{
		// for the first of two
		{0, 0x5000, 0, nil, 0, 2}, {2, 0, 0, nil, 0, 2}, {0, top - 4096, 0, words{at(zero, 0): word(f3, v)}, 0, 2},
		// for the second one
		{0, 0x5000, 0, nil, 0b00001000, 1}, {2, 0, 0, nil, 0b10000000, 1}, {0, top - 4096, 0, words{at(f5, 3): all}, 0b00100000, 1},
		{0, 0x5000, 0, words{at(zero, 0): word(f3, v), at(f3, 1): word(0, v+r)}, 0, 1},
		// for the only one
		{0, 0, 1, nil, 0, 1}, {2, 0x200000, 1, nil, 0, 1}, {2, 0x40000000, 1, words{at(one, 0): word(f3, v), at(f3, 0): word(0, v+r)}, 0, 1},
		{-1, top, 0, nil, 0, 1}, {-1, all - 4095, 0, words{at(common, 0): word(f3, v), at(f3, 0): word(0, v+r+g)}, 0, 1},
	} {
		old := midst(c.free, c.words)
		for more := range c.lack + 1 {
			want := api.ErrFrames
			if more == c.lack {
				want = api.OK
			}
			old.Pool.Free = c.free | []uint64{0, 0b00010000, 0b01010000}[more]
			k, e := lay.Map(old.made(), c.id, c.addr, 0, c.level, ro)
			if e != want || e != api.OK && !same(k, old.made()) {
				t.Errorf("Map(%d, %#x, %d) of %#b is %d, not %d", c.id, c.addr, c.level, old.Pool.Free, e, want)
			}
			maps(t, old, c.id, c.addr, 0, c.level, ro)
		}
	}
}

// flaws are what may be wrong at once, in the order in which it is told.
var flaws = []api.Errno{api.ErrArg, api.ErrSpace, api.ErrAlign, api.ErrRange, api.ErrAlign, api.ErrRange, api.ErrPerm, api.ErrOver, api.ErrFrames}

// P22.1: of all that may be wrong any number at once: the first is told, and nothing is another.
func TestOrder(t *testing.T) {
	met := map[api.Errno]int{}
	for n := range 1 << len(flaws) {
		for level := range 3 {
			has := func(i int) bool { return n>>i&1 == 1 }
			id, addr, pa, asked, p, free, other := 0, uint64(0), uint64(0), level, rw, uint64(0b11111000), words{}
			if has(0) {
				asked = []int{3, -1, 9}[level]
			}
			if has(1) {
				id = []int{1, 3, -2}[level]
			}
			if has(3) {
				addr = top
			}
			if has(2) {
				addr += 8
			}
			if has(4) {
				pa += levels[level] / 2
			}
			if has(5) {
				pa += 1 << 31
			}
			if has(6) {
				p = no
			}
			if has(7) {
				other[at(zero, 0)] = word(0, v+r)
			}
			if has(8) {
				free = 0
			}
			want := api.OK
			for i, e := range flaws {
				// a page of 1 GiB wants no frame
				if has(i) && (i != 8 || level < 2) {
					want = e
					break
				}
			}
			old := midst(free, other)
			met[want]++
			if _, e := maps(t, old, id, addr, pa, asked, p); e != want {
				t.Fatalf("Map(%d, %#x, %#x, %d, %+v) is told %d, not %d", id, addr, pa, asked, p, e, want)
			}
		}
	}
	for _, e := range append(flaws, api.OK) {
		if met[e] == 0 {
			t.Errorf("%d isn't met", e)
		}
	}
}

// ids are such as live and such as don't, of kernels of a few spaces.
var ids = []int{0, 1, 2, 3, 4, -1, -2, -3, 31, 32, 1 << 32, -1 << 32, math.MaxInt, math.MinInt}

// P22.1: of ids, levels and addresses around an end of something the error is Where's; of those that are right the page is laid.
func TestWheres(t *testing.T) {
	old, met := midst(0b11111000, nil), map[api.Errno]int{}
	for _, id := range ids {
		for _, level := range []int{0, 1, 2, 3, -1, 64, math.MinInt, math.MaxInt} {
			for _, end := range []uint64{0, 1 << 30, 1 << 38, 1<<39 - 1<<30, 1 << 39, 1 << 63, top, top - 1<<30, 0xffffffc000000000} {
				for _, by := range []uint64{0, 1, 8, 4095, 4096, 1<<21 - 1, 1 << 21, 1 << 30, 1<<30 + 1<<21 + 1<<12} {
					for _, addr := range []uint64{end + by, end - by} {
						_, _, wrong := space.Where(old.made(), id, addr, level)
						if _, e := maps(t, old, id, addr, 0, level, ro); e != wrong {
							t.Fatalf("Map(%d, %#x, %d) is told %d, not %d", id, addr, level, e, wrong)
						}
						met[wrong]++
					}
				}
			}
		}
	}
	if len(met) != 5 || met[api.OK] < 50 {
		t.Errorf("met are %v", met)
	}
}

// grown tells a kernel of trees of all levels. The space 0 has pages of all of them, the space 2 has none, and all have some.
func grown() kernel {
	return midst(0, words{
		at(zero, 0): word(f3, v), at(f3, 0): word(f4, v), at(f4, 5): word(3, v+r+w+u), at(f4, 6): word(3, v+x+a), at(f4, 511): word(1<<19-1, v+r+x+u+a+d),
		at(f3, 1): word(0x400, v+r), at(f3, 511): word(0x200, v+r+w+a+d), at(zero, 255): word(0, v+x), at(zero, 256): word(1<<18, v+r+w+x+u),
		at(zero, 510): word(f5, v), at(f5, 511): word(0, v+r+u),
		at(common, 0): word(f6, v), at(f6, 0): word(9, v+r+g), at(f6, 511): word(8, v+r+w+g+a+d), at(common, 1): word(0x200, v+x+g), at(common, 511): word(f7, v), at(f7, 511): word(7, v+r+u+g),
	})
}

// of tells a page.
func of(addr, pa uint64, level int, p api.Perm, stored bool) api.Page {
	return api.Page{Va: addr, Pa: pa, Level: level, Perm: p, Stored: stored}
}

// P22.2: pages of all levels, by their addresses, written out; of a space without those of all, of none that doesn't live; whichever is the current one.
func TestList(t *testing.T) {
	r0, rwx := api.Perm{R: true, U: true}, api.Perm{R: true, W: true, X: true, U: true}
	want := map[int][]api.Page{
		0: {
			of(0x5000, 0x3000, 0, rw, false), of(0x6000, 0x3000, 0, api.Perm{X: true}, false), of(0x1ff000, 0x7ffff000, 0, api.Perm{R: true, X: true, U: true}, true),
			of(0x200000, 0x400000, 1, ro, false), of(0x3fe00000, 0x200000, 1, api.Perm{R: true, W: true}, true), of(0x3fc0000000, 0, 2, api.Perm{X: true}, false),
			of(0xffffffc000000000, 0x40000000, 2, rwx, false), of(0xffffffffbfe00000, 0, 1, r0, false),
		},
		-1: {
			of(0xffffffffc0000000, 0x9000, 0, ro, false), of(0xffffffffc01ff000, 0x8000, 0, api.Perm{R: true, W: true}, true),
			of(0xffffffffc0200000, 0x200000, 1, api.Perm{X: true}, false), of(0xfffffffffffff000, 0x7000, 0, r0, false),
		},
	}
	for _, now := range []int{2, 0, -1} {
		old := grown()
		old.Now = now
		for _, id := range ids {
			lists(t, fmt.Sprintf("%d is current", now), old.made(), id, want[id])
			lists(t, "told", old.made(), id, old.listed(id))
		}
	}
	// where all have none, and where there is no other page
	bare := midst(0, nil)
	for _, id := range ids {
		lists(t, "bare", bare.made(), id, nil)
	}
	begun, _ := space.New(api.Conf{Data: 1, Pool: 1, Asids: 1})
	for _, id := range ids {
		lists(t, "begun", begun, id, nil)
	}
	// pages of all alone: no space lists them
	shared := bare.but(words{at(common, 0): word(0, v+r+g), at(common, 5): word(f7, v), at(f7, 0): word(1, v+x+g)})
	for _, id := range ids {
		want := []api.Page(nil)
		if id == -1 {
			want = []api.Page{of(top, 0, 1, ro, false), of(top+5<<21, 0x1000, 0, api.Perm{X: true}, false)}
		}
		lists(t, "of all", shared.made(), id, want)
	}
}

// flat is what is told of spaces without tables: the pages of each, rising by their addresses; the id -1 is that of all.
type flat map[int][]api.Page

// meets tells whether a page of l meets the addresses of such a page.
func meets(l []api.Page, addr uint64, level int) bool {
	return slices.ContainsFunc(l, func(p api.Page) bool {
		return addr-p.Va < levels[p.Level] || p.Va-addr < levels[level]
	})
}

// tables tells how many tables pages need, beside the top, which is of that level.
func tables(l []api.Page, high int) int {
	need := map[[2]uint64]bool{}
	for _, p := range l {
		for level := p.Level; level < high; level++ {
			// the table that has what is of that level is one for each page of the next
			need[[2]uint64{uint64(level), p.Va / levels[level+1]}] = true
		}
	}
	return len(need)
}

// with tells the pages with one more.
func with(l []api.Page, p api.Page) []api.Page {
	l = append(slices.Clone(l), p)
	slices.SortFunc(l, func(a, b api.Page) int {
		if a.Va < b.Va {
			return -1
		}
		return 1
	})
	return l
}

// run is a kernel under way, and what is told of its pages: numbers come of a rule.
type run struct {
	api.Kernel
	flat flat
	seed uint64
}

// next tells the next number below n.
func (k *run) next(n uint64) uint64 {
	k.seed = k.seed*6364136223846793005 + 1442695040888963407
	return k.seed >> 33 % n
}

// used tells how many tables there are.
func (k *run) used() int {
	n := 1 + tables(k.flat[-1], 1)
	for id, s := range k.Spaces {
		if s.Live {
			n += 1 + tables(k.flat[id], 2)
		}
	}
	return n
}

// addr tells an address of few, near each other, that mostly fits the level.
func (k *run) addr(id, level int) uint64 {
	addr := address([]uint64{0, 1, 255, 256, 510}[k.next(5)], []uint64{0, 1, 511}[k.next(3)], k.next(3)*k.next(2))
	if id == -1 {
		addr |= top
	}
	if k.next(8) > 0 && level >= 0 && level < 3 {
		addr -= addr % levels[level]
	}
	return addr
}

// maps lays a page, and holds the answer against what is told by words, and by pages alone.
func (k *run) maps(t *testing.T) api.Errno {
	t.Helper()
	id := int(k.next(uint64(len(k.Spaces)+3))) - 2
	level := []int{0, 0, 0, 1, 1, 2, 3}[k.next(7)]
	addr := k.addr(id, level)
	pa := []uint64{0, 0x1000, 0x200000, 0x40000000, 0x40001000}[k.next(5)]
	p := []api.Perm{rw, ro, xo, {R: true, W: true, X: true}, no}[k.next(40)%9/2]
	old := told(k.Kernel)
	want, wrong := old.laid(id, addr, pa, level, p)
	n, e := lay.Map(old.made(), id, addr, pa, level, p)
	name := fmt.Sprintf("Map(%d, %#x, %#x, %d, %+v)", id, addr, pa, level, p)
	hold(t, name, n, want.made(), e, wrong)
	switch over := e != api.ErrArg && meets(k.flat[id], addr, level); {
	case e == api.OK:
		if over {
			t.Fatalf("%s is OK, where something is", name)
		}
		k.flat[id] = with(k.flat[id], of(addr, pa, level, p, false))
	case e == api.ErrFrames && over, e == api.ErrOver && !over:
		t.Fatalf("%s is %d", name, e)
	case e == api.ErrFrames:
		more := flat{}
		for id, l := range k.flat {
			more[id] = l
		}
		more[id] = with(more[id], of(addr, pa, level, p, false))
		if n := (&run{Kernel: k.Kernel, flat: more}).used(); n <= k.Conf.Pool {
			t.Fatalf("%s: frames lack, of %d tables", name, n)
		}
	}
	k.Kernel = n
	return e
}

// lists holds all lists against what is told, of the pages, of the words, and of how many tables there are.
func (k *run) lists(t *testing.T) {
	t.Helper()
	old := told(k.Kernel)
	for id := -2; id < len(k.Spaces)+2; id++ {
		lists(t, "told by pages", k.Kernel, id, k.flat[id])
		lists(t, "told by words", k.Kernel, id, old.listed(id))
	}
	free := 0
	for i := range 64 {
		free += int(k.Pool.Free >> i & 1)
	}
	if n := k.used(); n+free != k.Conf.Pool {
		t.Fatalf("there are %d tables, and %d frames are free", n, free)
	}
}

// step creates, destroys or switches, or lays a page.
func (k *run) step(t *testing.T) api.Errno {
	t.Helper()
	id := int(k.next(uint64(len(k.Spaces) + 1)))
	var e api.Errno
	switch k.next(24) {
	case 0, 1:
		k.Kernel, _, e = space.Create(k.Kernel)
	case 2:
		if k.Kernel, e = space.Destroy(k.Kernel, id); e == api.OK {
			delete(k.flat, id)
		}
	case 3:
		k.Kernel, e = space.Switch(k.Kernel, id-1)
	default:
		e = k.maps(t)
	}
	return e
}

// P22.1 to P22.3: many calls, one behind the other, are as the chapter tells them; the pages are those that were laid, and there are as many tables as these need.
func TestRuns(t *testing.T) {
	met := map[api.Errno]int{}
	for n := range uint64(40) {
		c := api.Conf{Data: []int{3, 513, 1 << 18, 1 << 19}[n%4], Pool: []int{4, 9, 20, 64}[n/4%4], Asids: []int{1, 3, 16}[n%3], Sets: []int{0, 2}[n%2]}
		k := run{flat: flat{}, seed: n * 977}
		k.Kernel, _ = space.New(c)
		k.Kernel, _, _ = space.Create(k.Kernel)
		for i := range 150 {
			met[k.step(t)]++
			if i%10 == 0 {
				k.lists(t)
			}
		}
		k.lists(t)
	}
	for _, e := range []api.Errno{api.OK, api.ErrArg, api.ErrAlign, api.ErrRange, api.ErrSpace, api.ErrPerm, api.ErrOver, api.ErrFrames} {
		if met[e] < 50 {
			t.Errorf("%d steps are %d", met[e], e)
		}
	}
}

// P22.3: what is laid is listed, and what was is, too.
func TestLaidIsListed(t *testing.T) {
	for i, c := range lays {
		old := midst(c.free, c.words).made()
		k, _ := lay.Map(old, c.id, c.addr, c.pa, c.level, c.p)
		for _, id := range ids {
			want := lay.List(old, id)
			if id == c.id {
				want = with(want, of(c.addr, c.pa, c.level, c.p, false))
			}
			lists(t, fmt.Sprint(i), k, id, want)
		}
	}
}

// P22.1: a page that is laid is one to those who walk: by the root of its space alone, or, of all, by each root; and it leads to pa.
func TestLaidIsWalked(t *testing.T) {
	for i, c := range lays {
		k, _ := lay.Map(midst(c.free, c.words).made(), c.id, c.addr, c.pa, c.level, c.p)
		for id, root := range map[int]uint64{0: zero, 2: one} {
			if id != c.id && c.id != -1 {
				continue
			}
			for _, by := range []uint64{0, 8, levels[c.level] - 1} {
				leaf, fault := walk.Look(k.Mem, root, c.addr+by, api.Load)
				if fault.Is || leaf.Level != c.level || walk.Physical(leaf, c.addr+by) != c.pa+by || leaf.Pte.A || leaf.Pte.D {
					t.Errorf("%d: %#x is led to %+v, %+v", i, c.addr+by, leaf, fault)
				}
			}
		}
	}
}

// TestExample is the chapter's example: two pages at one address, the second one is ErrOver.
func TestExample(t *testing.T) {
	k, _ := space.New(api.Conf{Data: 4, Pool: 4, Asids: 1})
	k, _, _ = space.Create(k)
	k, e := lay.Map(k, 0, 0x5000, 0x1000, 0, rw)
	if e != api.OK {
		t.Fatalf("the first one is %d", e)
	}
	for _, pa := range []uint64{0x1000, 0x2000} {
		n, e := lay.Map(k, 0, 0x5000, pa, 0, rw)
		hold(t, "the second one", n, told(k).made(), e, api.ErrOver)
	}
}

// TestWholeExample is what the document's examples of the whole tell of pages that are laid: a new kernel of 4 frames of data, 8 of tables, two numbers, one set.
func TestWholeExample(t *testing.T) {
	k, _ := space.New(api.Conf{Data: 4, Pool: 8, Asids: 2, Sets: 1})
	k, _, _ = space.Create(k)
	k, e := lay.Map(k, 0, 0x5000, 0x1000, 0, rw)
	if e != api.OK || k.Pool.Free != 0b11110000 || len(k.Fences) != 0 {
		t.Fatalf("Map is %d, free are %#b", e, k.Pool.Free)
	}
	k, _ = space.Switch(k, 0)
	var z api.Result
	k.Hart, k.Mem, z = hart.Access(k.Hart, k.Mem, api.Store, 0x5008, 8, 9)
	lists(t, "stored", k, 0, []api.Page{of(0x5000, 0x1000, 0, rw, true)})
	k.Hart, k.Mem, z = hart.Access(k.Hart, k.Mem, api.Load, 0x5008, 8, 0)
	if z != (api.Result{Val: 9}) || told(k).words[0x1008] != 9 {
		t.Errorf("Load is %+v", z)
	}
	k, e = lay.Map(k, -1, 0xfffffffffffff000, 0x3000, 0, rw)
	if e != api.OK {
		t.Fatalf("Map of all is %d", e)
	}
	k, id, _ := space.Create(k)
	k, _ = space.Switch(k, id)
	k.Hart, k.Mem, z = hart.Access(k.Hart, k.Mem, api.Store, 0xfffffffffffffff8, 8, 7)
	if z.Fault.Is || told(k).words[0x3ff8] != 7 {
		t.Errorf("Store is %+v", z)
	}
	lists(t, "the other space", k, id, nil)
	lists(t, "of all", k, -1, []api.Page{of(0xfffffffffffff000, 0x3000, 0, rw, true)})
	great, _ := space.New(api.Conf{Data: 512, Pool: 8, Asids: 2, Sets: 1})
	great, _, _ = space.Create(great)
	great, e = lay.Map(great, 0, 0x200000, 0, 1, rw)
	if e != api.OK {
		t.Fatalf("Map of 2 MiB is %d", e)
	}
	if _, e = lay.Map(great, 0, 0x203000, 0x1000, 0, rw); e != api.ErrOver {
		t.Errorf("Map in it is %d", e)
	}
}

// whole tells all of a list, and what is in the room behind it.
func whole[T any](l []T) []T {
	return slices.Clone(l[:cap(l)])
}

// image tells all lists of a kernel, the room behind them included.
func image(k api.Kernel) api.Kernel {
	k.Mem.Cells, k.Hart.Tlb.Sets, k.Spaces, k.Fences = whole(k.Mem.Cells), whole(k.Hart.Tlb.Sets), whole(k.Spaces), whole(k.Fences)
	return k
}

// paint writes into all of a list, and into the room behind it.
func paint[T any](l []T, by T) {
	l = l[:cap(l)]
	for i := range l {
		l[i] = by
	}
}

// spoil writes into those lists of a kernel that aren't as they are in another one.
func spoil(k, old api.Kernel) {
	if !slices.Equal(k.Mem.Cells, old.Mem.Cells) {
		paint(k.Mem.Cells, api.Cell{At: 66, Val: 99})
	}
	if !slices.Equal(k.Hart.Tlb.Sets, old.Hart.Tlb.Sets) {
		paint(k.Hart.Tlb.Sets, api.Set{Tree: 7})
	}
	if !slices.Equal(k.Spaces, old.Spaces) {
		paint(k.Spaces, api.Space{Root: 66})
	}
	if !slices.Equal(k.Fences, old.Fences) {
		paint(k.Fences, api.Fence{Asid: 66})
	}
}

// calls are calls of each sort, of a kernel in the midst of things.
func calls() map[string]func(k api.Kernel) api.Kernel {
	mapped := func(id int, addr, pa uint64, level int, p api.Perm) func(k api.Kernel) api.Kernel {
		return func(k api.Kernel) api.Kernel { n, _ := lay.Map(k, id, addr, pa, level, p); return n }
	}
	return map[string]func(k api.Kernel) api.Kernel{
		"two tables":  mapped(2, 0x40000000, 0x1000, 0, rw),
		"one table":   mapped(0, 0x400000, 0x1000, 0, rw),
		"no table":    mapped(0, 0x7000, 0x1000, 0, rw),
		"2 MiB":       mapped(2, 0x40000000, 0, 1, ro),
		"1 GiB":       mapped(2, 0x40000000, 0, 2, ro),
		"of all":      mapped(-1, top, 0, 0, ro),
		"no level":    mapped(0, 0, 0, 3, ro),
		"no space":    mapped(1, 0, 0, 0, ro),
		"not aligned": mapped(0, 0x8000, 1, 0, ro),
		"far":         mapped(0, 0x8000, 1<<40, 0, ro),
		"no perm":     mapped(0, 0x8000, 0, 0, no),
		"over":        mapped(0, 0x5000, 0, 0, ro),
		"frames lack": func(k api.Kernel) api.Kernel {
			k.Pool.Free = 1 << 6
			n, _ := lay.Map(k, 2, 0x40000000, 0, 0, ro)
			return n
		},
		"listed": func(k api.Kernel) api.Kernel {
			for _, id := range ids {
				lay.List(k, id)
			}
			return k
		},
	}
}

// some is a kernel of some pages, of which three frames are free.
func some() kernel {
	return midst(0b11100000, words{at(zero, 0): word(f3, v), at(f3, 0): word(f4, v), at(f4, 5): word(3, v+r+w+u), at(f7, 9): all, at(f3, 511): word(0, v+r), at(common, 511): word(0x200, v+r+g)})
}

// P22.4: what is handed in stays, the room behind its lists included, and what is answered shares nothing with it where it isn't as it was.
func TestHandedInStays(t *testing.T) {
	for name, call := range calls() {
		k := some().made()
		before := image(k)
		n := call(k)
		if !same(image(k), before) {
			t.Errorf("%s: the kernel was changed", name)
		}
		spoil(n, k)
		if !same(image(k), before) {
			t.Errorf("%s: the answer shares with what was handed in", name)
		}
	}
}

// P22.4: nothing is kept from call to call, and one answer isn't another's, also where both come of one kernel.
func TestNothingIsKept(t *testing.T) {
	for name, call := range calls() {
		for other, next := range calls() {
			k := some().made()
			first, want := call(k), call(some().made())
			second := next(k)
			if !same(first, want) {
				t.Fatalf("%s: %s changed the answer", other, name)
			}
			spoil(second, k)
			if !same(first, want) || !same(call(k), want) {
				t.Fatalf("%s and %s share", other, name)
			}
			// what comes of an answer doesn't change it, nor what else came of it
			third := next(first)
			again := image(third)
			call(first)
			if !same(first, want) || !same(image(third), again) {
				t.Fatalf("%s: %s changed what it was handed", name, other)
			}
		}
	}
}

// P22.4: a list that is answered is nobody else's.
func TestListIsNew(t *testing.T) {
	k := grown().made()
	before := image(k)
	for _, id := range ids {
		l := lay.List(k, id)
		want := slices.Clone(l)
		paint(lay.List(k, id), api.Page{Va: 66, Level: 9})
		if !slices.Equal(l, want) || !slices.Equal(lay.List(k, id), want) || !same(image(k), before) {
			t.Errorf("two lists of %d share", id)
		}
	}
}

// P22.4: nil and empty lists are one.
func TestNilAndEmpty(t *testing.T) {
	k, _ := space.New(api.Conf{Data: 2, Pool: 3, Asids: 2})
	want := told(k)
	k.Mem.Cells, k.Hart.Tlb.Sets, k.Spaces, k.Fences = nil, nil, nil, nil
	empty := k
	empty.Mem.Cells, empty.Hart.Tlb.Sets, empty.Spaces, empty.Fences = []api.Cell{}, []api.Set{}, []api.Space{}, []api.Fence{}
	for _, k := range []api.Kernel{k, empty} {
		for _, id := range ids {
			lists(t, "of nothing", k, id, nil)
			more, wrong := want.laid(id, top, 0x1000, 0, rw)
			n, e := lay.Map(k, id, top, 0x1000, 0, rw)
			hold(t, "Map", n, more.made(), e, wrong)
		}
	}
}

// odd are kernels that come of none of the calls.
func odd() []api.Kernel {
	l := []api.Kernel{{}, {Now: 5, Shared: all}, {Spaces: make([]api.Space, 99), Now: math.MinInt}}
	mems := []api.Mem{
		{}, {Size: 1}, {Size: all}, {Size: 8192, Cells: []api.Cell{{At: 9, Val: v}, {At: 3, Val: v + r}, {At: 3}, {At: all, Val: all}, {At: 512, Val: word(1, v)}}},
		{Size: 8192, Cells: []api.Cell{{At: 0, Val: word(0, v)}, {At: 5, Val: word(1, v)}, {At: 511, Val: word(1, v)}, {At: 512, Val: word(0, v)}, {At: 1023, Val: word(1<<44-1, v)}}},
		{Size: 8192, Cells: []api.Cell{{At: 0, Val: word(1, v+a)}, {At: 1, Val: word(1, v+w)}, {At: 5, Val: 2}, {At: 511, Val: word(1, v+1<<60)}, {At: 512, Val: word(5, v+r)}}},
		{Size: 1 << 41, Cells: []api.Cell{{}, {}, {At: 1 << 61, Val: all}}},
	}
	pools := []api.Pool{{}, {Many: 2, Free: 3}, {Base: all, Many: 65, Free: all}, {Base: 1 << 52, Many: math.MaxInt, Free: 1 << 63}, {Many: math.MinInt, Free: all}, {Base: 1, Many: -1, Free: 5}}
	for i, m := range mems {
		for j, p := range pools {
			for n, data := range []int{0, 2, -1, 1 << 52, math.MaxInt, math.MinInt} {
				s := []api.Space{{Root: 0, Asid: 1, Live: true}, {Root: all, Asid: all, Live: true}, {Root: 1 << 44, Live: true}, {Root: 7}, {Root: 1, Asid: 64, Live: true}, {Root: uint64(i + j), Asid: uint64(n), Live: true}}
				l = append(l, api.Kernel{
					Conf: api.Conf{Data: data, Pool: 900, Asids: i, Sets: j}, Mem: m, Hart: api.Hart{Satp: api.Satp{Mode: all}, Priv: -7, Victim: math.MinInt},
					Pool: p, Spaces: s[:(i+j*n)%7], Now: j*2 - n, Shared: []uint64{0, 1, 7, 1<<44 - 1, 1 << 44, all}[(i+n)%6],
				})
			}
		}
	}
	return l
}

// Of kernels that come of none of these calls nothing is promised, but no call panics, and all end.
func TestNoPanic(t *testing.T) {
	for _, k := range odd() {
		for _, id := range append([]int{5, 6, 98, 99}, ids...) {
			lay.List(k, id)
			for _, level := range []int{0, 1, 2, 3, -1, math.MinInt, math.MaxInt} {
				for _, addr := range []uint64{0, 1, 0x5000, 0x200000, 1 << 38, top, all - 4095, all, 0x123456789abcdef0} {
					for _, pa := range []uint64{0, 1, 0x5000, 1 << 30, 1 << 56, 1 << 63, all - 4095, all} {
						lay.Map(k, id, addr, pa, level, rw)
					}
				}
			}
		}
	}
}
