package table_test

import (
	"fmt"
	"math"
	"slices"
	"testing"

	"atlas/api"
	"atlas/table"
)

const all = ^uint64(0)

// The bits of an entry's word, told as numbers.
const (
	v = 1
	r = 2
	w = 4
	x = 8
	u = 0x10
	g = 0x20
	a = 0x40
	d = 0x80
	// soft is the higher bit of Rsw, wide the lowest of High, last its highest.
	soft = 1 << 9
	wide = 1 << 54
	last = 1 << 63
)

// levels are the bytes of a page, spans its frames.
var (
	levels = []uint64{1 << 12, 1 << 21, 1 << 30}
	spans  = []uint64{1, 1 << 9, 1 << 18}
)

// at tells where the entry of that index is in the table of that frame.
func at(frame, index uint64) uint64 {
	return frame*4096 + index*8
}

// word tells the word of an entry of that frame.
func word(frame, bits uint64) uint64 {
	return frame*1024 + bits
}

// entry tells the entry of a word.
func entry(e uint64) api.Pte {
	return api.Pte{
		V: e&v != 0, R: e&r != 0, W: e&w != 0, X: e&x != 0, U: e&u != 0, G: e&g != 0, A: e&a != 0, D: e&d != 0,
		Rsw: e / 256 % 4, Ppn: e / 1024 % (1 << 44), High: e >> 54,
	}
}

// address tells the canonical address of these indexes and that offset.
func address(high, mid, low, offset uint64) uint64 {
	return canonical(((high*512+mid)*512+low)*4096 + offset)
}

// canonical tells the canonical address of the lowest 39 bits.
func canonical(addr uint64) uint64 {
	addr %= 1 << 39
	if addr >= 1<<38 {
		addr += all - (1<<39 - 1)
	}
	return addr
}

// machine is a memory told by its words that aren't 0, by their addresses, and by how many frames it has.
type machine struct {
	frames uint64
	words  map[uint64]uint64
}

// mem tells the machine's memory, with room behind the list of its cells.
func (m machine) mem() api.Mem {
	row := []api.Cell{}
	for at, val := range m.words {
		if val != 0 {
			row = append(row, api.Cell{At: at / 8, Val: val})
		}
	}
	slices.SortFunc(row, func(a, b api.Cell) int { return int(a.At) - int(b.At) })
	n := len(row)
	row = append(row, api.Cell{At: 901, Val: 0xee}, api.Cell{At: 902, Val: 0xef})
	return api.Mem{Size: m.frames * 4096, Cells: row[:n]}
}

// with tells the machine with another word.
func (m machine) with(at, val uint64) machine {
	n := map[uint64]uint64{}
	for k, old := range m.words {
		n[k] = old
	}
	n[at] = val
	return machine{m.frames, n}
}

// without tells the machine whose frame is empty.
func (m machine) without(frame uint64) machine {
	n := map[uint64]uint64{}
	for k, old := range m.words {
		if k/4096 != frame {
			n[k] = old
		}
	}
	return machine{m.frames, n}
}

// empty tells whether the frame has no word that isn't 0.
func (m machine) empty(frame uint64) bool {
	for k, val := range m.words {
		if val != 0 && k/4096 == frame {
			return false
		}
	}
	return true
}

// same tells whether two memories are the same; nil and empty lists are one.
func same(m, n api.Mem) bool {
	return m.Size == n.Size && slices.Equal(m.Cells, n.Cells)
}

// bad tells whether a word is a bad entry at the level.
func bad(e uint64, level int) bool {
	switch {
	case e&v == 0, e&w != 0 && e&r == 0, e>>54 != 0:
		return true
	case e&(r+x) == 0:
		return level == 0 || e&(a+d+u) != 0
	}
	return e>>10%(1<<44)%spans[level] != 0
}

// child tells the frame to which a link that isn't bad leads, and that it is such a one.
func child(e uint64, level int) (uint64, bool) {
	return e >> 10 % (1 << 44), e&(r+x) == 0 && !bad(e, level)
}

// tree is one that is told: its machine, its top's frame and its level.
type tree struct {
	machine
	top   uint64
	level int
}

// reached tells the spot of an address, as the chapter has it.
func (t tree) reached(addr uint64, want int) api.Spot {
	e := t.words[at(t.top, addr/levels[t.level]%512)]
	if frame, leads := child(e, t.level); leads && t.level > want {
		return tree{t.machine, frame, t.level - 1}.reached(addr, want)
	}
	return api.Spot{Table: t.top, Level: t.level, Pte: entry(e)}
}

// pages tells the tree's pages, as the chapter has it.
func (t tree) pages(base uint64) (l []api.Page) {
	for i := range uint64(512) {
		e := t.words[at(t.top, i)]
		begin := base + i*levels[t.level]
		frame, leads := child(e, t.level)
		switch {
		case bad(e, t.level):
		case leads:
			l = append(l, tree{t.machine, frame, t.level - 1}.pages(begin)...)
		default:
			perm := api.Perm{R: e&r != 0, W: e&w != 0, X: e&x != 0, U: e&u != 0}
			l = append(l, api.Page{Va: canonical(begin), Pa: frame * 4096, Level: t.level, Perm: perm, Stored: e&d != 0})
		}
	}
	return l
}

// tables tells the frames of the tree's tables, as the chapter has it.
func (t tree) tables() []uint64 {
	l := []uint64{t.top}
	for i := range uint64(512) {
		if frame, leads := child(t.words[at(t.top, i)], t.level); leads {
			l = append(l, tree{t.machine, frame, t.level - 1}.tables()...)
		}
	}
	return l
}

// grown is a tree under way: numbers come of a rule, frames of another, each of the first 64 once.
type grown struct {
	machine
	seed, frame uint64
	left        int
}

// next tells the next number below n.
func (t *grown) next(n uint64) uint64 {
	t.seed = t.seed*6364136223846793005 + 1442695040888963407
	return t.seed >> 33 % n
}

// edges are indexes at which something stands more often than elsewhere.
var edges = []uint64{0, 1, 2, 5, 255, 256, 257, 510, 511}

// index tells the next index.
func (t *grown) index() uint64 {
	if t.next(3) == 0 {
		return t.next(512)
	}
	return edges[t.next(uint64(len(edges)))]
}

// shown are bits of entries of all sorts: leaves that aren't bad, leaves and links that are, and such as aren't valid.
var shown = []uint64{
	v + r, v + r + w, v + x, v + r + x, v + r + w + x, v + r + u, v + r + w + x + u + g + a + d, v + r + a, v + r + d, v + r + w + d, v + x + g, v + r + soft, v + r + 256,
	v + w, v + w + x, v + w + u, v + r + wide, v + r + last, v + x + wide*8, v + wide, v + last, v + a, v + d, v + u, v + a + d + u,
	0, r, r + w + x, w, x, u, g, a, d, r + w + x + u + g + a + d, soft, wide,
}

// links are bits of links that aren't bad.
var links = []uint64{v, v, v + g, v + soft, v + 256 + soft + g}

// other tells the next entry that leads to no table.
func (t *grown) other(level int) uint64 {
	frame := t.next(1<<12) * spans[level]
	switch t.next(6) {
	case 0:
		frame += 1 + t.next(9)
	case 1:
		frame += spans[max(level-1, 0)]
	case 2:
		frame = 1<<44 - spans[level]
	case 3:
		frame = t.next(64)
	}
	return word(frame, shown[t.next(uint64(len(shown)))])
}

// grow tells the frame of the next table of that level, and of all under it.
func (t *grown) grow(level int) uint64 {
	t.left--
	t.frame = (t.frame*5 + 3) % 64
	frame := t.frame
	for range 2 + t.next(8) {
		place := at(frame, t.index())
		switch {
		case t.words[place] != 0:
		case level > 0 && t.left > 0 && t.next(5) < 3:
			t.words[place] = word(t.grow(level-1), links[t.next(uint64(len(links)))])
		default:
			t.words[place] = t.other(level)
		}
	}
	return frame
}

// eachTree goes through many trees of all levels, in memories that hold other words, too.
func eachTree(see func(t tree)) {
	for n := range uint64(240) {
		g := grown{machine{70, map[uint64]uint64{at(64, 0): all, at(69, 511): 77}}, n * 77, n * 7, 64}
		level := int(n % 3)
		top := g.grow(level)
		see(tree{g.machine, top, level})
	}
}

// indexes tells the indexes at which the tree's tables have something, and one that nobody has.
func (t tree) indexes() []uint64 {
	l := []uint64{300}
	for k := range t.words {
		if k < 64*4096 {
			l = append(l, k/8%512)
		}
	}
	slices.Sort(l)
	return slices.Compact(l)
}

// eachWay goes through addresses that lead to all that is in the tree, and to what is beside it.
func (t tree) eachWay(see func(addr uint64)) {
	var down func(frame uint64, level int, over uint64)
	down = func(frame uint64, level int, over uint64) {
		for i, index := range t.indexes() {
			next := over + index*levels[level]
			see(canonical(next + uint64(i)*0x1357%levels[level]))
			if under, leads := child(t.words[at(frame, index)], level); leads {
				down(under, level-1, next)
			}
		}
	}
	down(t.top, t.level, 0x155<<30)
	down(t.top, t.level, 0x0aa<<30+0x1ff<<21)
}

// full tells a tree of the level 2 of so many tables, of which each is linked by the rising indexes of another; the last one has a leaf, as each of the level 0.
func full(tables int) tree {
	t := tree{machine{64, map[uint64]uint64{}}, 1, 2}
	middle, frame := uint64(0), uint64(2)
	for n := 1; n < tables; n++ {
		if n%16 == 1 {
			middle = frame
			t.words[at(1, uint64(n))] = word(frame, v)
		} else {
			t.words[at(middle, uint64(n))] = word(frame%64, v+g)
			t.words[at(frame%64, uint64(n))] = word(uint64(n), v+r)
		}
		t.words[at(middle, 511)] = word(512, v+x)
		frame++
	}
	return t
}

// want tells a spot, as it is written out.
func want(frame uint64, level int, e uint64) api.Spot {
	return api.Spot{Table: frame, Level: level, Pte: entry(e)}
}

// P19.1: the way ends at the level that is asked, whatever the entry there is, or above it, where the entry isn't a link or is bad.
func TestReach(t *testing.T) {
	m := machine{9, map[uint64]uint64{
		at(1, 3):   word(2, v),
		at(1, 4):   word(1<<18, v+r),
		at(1, 5):   word(1<<18+1, v+r),
		at(1, 6):   word(1<<18+1<<9, v+x),
		at(1, 7):   word(2, v+a),
		at(1, 8):   word(2, v+d),
		at(1, 9):   word(2, v+u),
		at(1, 10):  word(2, v+wide),
		at(1, 11):  word(2, v+w),
		at(1, 12):  word(2, 0),
		at(1, 13):  word(2, g),
		at(1, 511): word(4, v+g+soft),
		at(2, 3):   word(3, v+g),
		at(2, 4):   word(512, v+r+w+d),
		at(2, 5):   word(513, v+r),
		at(2, 6):   word(3, v+u),
		at(2, 511): word(5, v),
		at(3, 3):   word(77, v+r),
		at(3, 4):   word(5, v),
		at(3, 5):   word(5, v+w+x),
		at(4, 0):   word(6, v),
		at(4, 3):   word(1<<44-512, v+x),
		at(5, 511): word(1<<44-1, v+r+a),
		at(6, 3):   word(7, v+last),
	}}
	for _, c := range []struct {
		top   uint64
		level int
		addr  uint64
		want  int
		spot  api.Spot
	}{
		// links down to the level that is asked, where the entry is a leaf, a link, nothing, or bad
		{1, 2, address(3, 3, 3, 0), 0, want(3, 0, word(77, v+r))},
		{1, 2, address(3, 3, 3, 0), 1, want(2, 1, word(3, v+g))},
		{1, 2, address(3, 3, 3, 0), 2, want(1, 2, word(2, v))},
		{1, 2, address(3, 3, 3, 4095), 0, want(3, 0, word(77, v+r))},
		{1, 2, address(3, 3, 4, 8), 0, want(3, 0, word(5, v))},
		{1, 2, address(3, 3, 5, 8), 0, want(3, 0, word(5, v+w+x))},
		{1, 2, address(3, 3, 6, 8), 0, want(3, 0, 0)},
		{1, 2, address(3, 511, 511, 0), 0, want(5, 0, word(1<<44-1, v+r+a))},
		{1, 2, address(511, 0, 3, 0), 0, want(6, 0, word(7, v+last))},
		{1, 2, address(511, 3, 3, 0), 1, want(4, 1, word(1<<44-512, v+x))},
		// a leaf above it
		{1, 2, address(3, 4, 3, 0), 0, want(2, 1, word(512, v+r+w+d))},
		{1, 2, address(3, 4, 3, 0), 1, want(2, 1, word(512, v+r+w+d))},
		{1, 2, address(4, 3, 3, 0), 0, want(1, 2, word(1<<18, v+r))},
		{1, 2, address(4, 3, 3, 0), 1, want(1, 2, word(1<<18, v+r))},
		{1, 2, address(4, 3, 3, 0), 2, want(1, 2, word(1<<18, v+r))},
		{1, 2, address(511, 3, 0, 0), 0, want(4, 1, word(1<<44-512, v+x))},
		// a leaf whose Ppn isn't a multiple of its pages
		{1, 2, address(3, 5, 3, 0), 0, want(2, 1, word(513, v+r))},
		{1, 2, address(5, 3, 3, 0), 0, want(1, 2, word(1<<18+1, v+r))},
		{1, 2, address(6, 3, 3, 0), 1, want(1, 2, word(1<<18+1<<9, v+x))},
		// nothing above it
		{1, 2, address(3, 0, 3, 0), 0, want(2, 1, 0)},
		{1, 2, address(0, 3, 3, 0), 0, want(1, 2, 0)},
		{1, 2, address(0, 3, 3, 0), 1, want(1, 2, 0)},
		{1, 2, address(12, 3, 3, 0), 0, want(1, 2, word(2, 0))},
		{1, 2, address(13, 3, 3, 0), 1, want(1, 2, word(2, g))},
		// a link that is bad above it
		{1, 2, address(7, 3, 3, 0), 0, want(1, 2, word(2, v+a))},
		{1, 2, address(8, 3, 3, 0), 0, want(1, 2, word(2, v+d))},
		{1, 2, address(9, 3, 3, 0), 1, want(1, 2, word(2, v+u))},
		{1, 2, address(10, 3, 3, 0), 0, want(1, 2, word(2, v+wide))},
		{1, 2, address(11, 3, 3, 0), 0, want(1, 2, word(2, v+w))},
		{1, 2, address(3, 6, 3, 0), 0, want(2, 1, word(3, v+u))},
		// of trees of the levels 1 and 0 the indexes above count for nothing
		{2, 1, address(9, 3, 3, 0), 0, want(3, 0, word(77, v+r))},
		{2, 1, address(9, 3, 3, 0), 1, want(2, 1, word(3, v+g))},
		{2, 1, address(511, 4, 3, 0), 0, want(2, 1, word(512, v+r+w+d))},
		{2, 1, address(300, 511, 511, 0), 0, want(5, 0, word(1<<44-1, v+r+a))},
		{2, 1, address(300, 510, 511, 0), 0, want(2, 1, 0)},
		{3, 0, address(9, 9, 3, 0), 0, want(3, 0, word(77, v+r))},
		{3, 0, address(511, 511, 4, 0), 0, want(3, 0, word(5, v))},
		{3, 0, address(9, 9, 9, 0), 0, want(3, 0, 0)},
		{8, 2, address(3, 3, 3, 0), 0, want(8, 2, 0)},
	} {
		if s := table.Reach(m.mem(), c.top, c.level, c.addr, c.want); s != c.spot {
			t.Errorf("Reach(%d, %d, %#x, %d) is %+v, not %+v", c.top, c.level, c.addr, c.want, s, c.spot)
		}
	}
}

// P19.1: of each bit of an entry alone, and with others, whether the way goes on.
func TestReachByBits(t *testing.T) {
	for _, bits := range slices.Concat(shown, links) {
		for i := range 64 {
			for _, e := range []uint64{word(2, bits), word(2, bits) ^ 1<<i} {
				for level := 1; level <= 2; level++ {
					m := machine{4, map[uint64]uint64{at(1, 7): e, at(2, 7): word(3, v+r)}}
					tree := tree{m, 1, level}
					if frame, leads := child(e, level); leads && frame >= m.frames {
						continue
					}
					for want := 0; want <= level; want++ {
						addr := address(7, 7, 7, 0)
						if s := table.Reach(m.mem(), 1, level, addr, want); s != tree.reached(addr, want) {
							t.Fatalf("Reach(%#x, %d, %d) is %+v, not %+v", e, level, want, s, tree.reached(addr, want))
						}
					}
				}
			}
		}
	}
}

// P19.1: the spots of many trees are as the chapter tells them.
func TestReachOfTrees(t *testing.T) {
	deep := [3]int{}
	eachTree(func(tree tree) {
		m := tree.mem()
		tree.eachWay(func(addr uint64) {
			for want := 0; want <= tree.level; want++ {
				s, told := table.Reach(m, tree.top, tree.level, addr, want), tree.reached(addr, want)
				if s != told {
					t.Fatalf("Reach(%+v, %#x, %d) is %+v, not %+v", tree, addr, want, s, told)
				}
				deep[s.Level]++
			}
		})
	})
	for level, n := range deep {
		if n < 1000 {
			t.Errorf("%d spots of the level %d", n, level)
		}
	}
}

// written are entries of all sorts: leaves, links, nothing, and such as are bad.
var written = []uint64{0, word(9, v+r), word(1<<44-1, v+r+w+x+u+g+a+d+soft+256), word(3, v), word(3, v+g), word(512, v+x), word(1<<18, v+r+w), word(5, r), word(7, v+w), all, wide, g, v}

// P19.1 and P19.4: an entry that is written at a spot is reached, and all other words are as they were.
func TestWith(t *testing.T) {
	eachTree(func(tree tree) {
		m := tree.mem()
		n := 0
		tree.eachWay(func(addr uint64) {
			for want := 0; want <= tree.level; want++ {
				if n++; n%3 == 0 {
					with(t, tree, m, tree.reached(addr, want), addr, written[n/3%len(written)])
				}
			}
		})
	})
}

// with holds With against the machine with that word, and what is reached then against it.
func with(t *testing.T, old tree, m api.Mem, s api.Spot, addr, e uint64) {
	t.Helper()
	told := old.with(at(s.Table, addr/levels[s.Level]%512), e)
	n := table.With(m, s, addr, entry(e))
	if !same(n, told.mem()) {
		t.Fatalf("With(%+v, %#x, %#x) is %+v, not %+v", s, addr, e, n, told.mem())
	}
	after := table.Reach(n, old.top, old.level, addr, s.Level)
	if after != want(s.Table, s.Level, e) {
		t.Fatalf("With(%+v, %#x, %#x): %+v is reached", s, addr, e, after)
	}
}

// P19.1: an entry is written where there was one, and where there was none; where all words of the table were 0, and of the memory; of nothing, it goes.
func TestWithWrittenOut(t *testing.T) {
	rw := api.Perm{R: true, W: true}
	leaf := api.Pte{V: true, R: rw.R, W: rw.W, Ppn: 9}
	base := machine{5, map[uint64]uint64{at(1, 0): word(2, v), at(2, 0): word(3, v), at(3, 5): word(8, v+x), at(4, 0): 6}}
	for _, c := range []struct {
		m    machine
		s    api.Spot
		addr uint64
		p    api.Pte
		at   uint64
		val  uint64
	}{
		{base, want(3, 0, word(8, v+x)), 0x5008, leaf, at(3, 5), word(9, v+r+w)},
		{base, want(3, 0, word(8, v+x)), 0x5fff, api.Pte{}, at(3, 5), 0},
		{base, want(3, 0, word(8, v+x)), 0x5000, entry(word(8, v+x)), at(3, 5), word(8, v+x)},
		{base, want(3, 0, 0), 0x6000, leaf, at(3, 6), word(9, v+r+w)},
		{base, want(3, 0, 0), 0x6000, api.Pte{}, at(3, 6), 0},
		{base, want(3, 0, 0), 0x0, leaf, at(3, 0), word(9, v+r+w)},
		{base, want(3, 0, 0), 0x1fffff, leaf, at(3, 511), word(9, v+r+w)},
		{base, want(2, 1, word(3, v)), 0x5008, api.Pte{}, at(2, 0), 0},
		{base, want(2, 1, 0), 0x205008, api.Pte{V: true, Ppn: 4}, at(2, 1), word(4, v)},
		{base, want(2, 1, 0), 0x3fffffff, leaf, at(2, 511), word(9, v+r+w)},
		{base, want(1, 2, word(2, v)), 0x5000, api.Pte{V: true, X: true, Ppn: 1 << 18}, at(1, 0), word(1<<18, v+x)},
		{base, want(1, 2, 0), all - 4095, api.Pte{V: true, G: true, Ppn: 4}, at(1, 511), word(4, v+g)},
		{base, want(1, 2, 0), 0xffffffc000000000, leaf, at(1, 256), word(9, v+r+w)},
		{machine{1, nil}, want(0, 0, 0), 0x5000, leaf, at(0, 5), word(9, v+r+w)},
		{machine{1, nil}, want(0, 2, 0), all, leaf, at(0, 511), word(9, v+r+w)},
		{machine{2, nil}, want(1, 1, 0), 0, api.Pte{High: 1023, Ppn: 1<<44 - 1, Rsw: 3}, at(1, 0), all - 255},
		{machine{2, nil}, want(1, 1, 0), 0, api.Pte{}, at(1, 0), 0},
	} {
		if n, told := table.With(c.m.mem(), c.s, c.addr, c.p), c.m.with(c.at, c.val).mem(); !same(n, told) {
			t.Errorf("With(%+v, %#x, %+v) is %+v, not %+v", c.s, c.addr, c.p, n, told)
		}
	}
}

// P19.1: a frame is empty, if all its words are 0, whatever is ahead of it and behind it.
func TestEmpty(t *testing.T) {
	for _, words := range []map[uint64]uint64{
		{},
		{at(0, 0): 1},
		{at(0, 511): 1},
		{at(3, 0): 1},
		{at(3, 1): last},
		{at(3, 200): word(5, r)},
		{at(3, 510): 1},
		{at(3, 511): 256},
		{at(2, 511): 1, at(4, 0): 1},
		{at(2, 0): 1, at(4, 511): 1},
		{at(6, 0): 1},
		{at(6, 511): all},
		{at(0, 0): 1, at(1, 7): v + r, at(2, 511): 1, at(3, 0): 1, at(4, 9): 2, at(5, 1): wide, at(6, 511): 1},
	} {
		m := machine{7, words}
		for frame := range m.frames {
			if is := table.Empty(m.mem(), frame); is != m.empty(frame) {
				t.Errorf("Empty of %v, the frame %d, is %v", words, frame, is)
			}
		}
	}
	for i := range uint64(512) {
		m := machine{3, map[uint64]uint64{at(1, i): 1 << (i % 64)}}
		for frame := range m.frames {
			if is := table.Empty(m.mem(), frame); is != (frame != 1) {
				t.Errorf("Empty of the index %d, the frame %d, is %v", i, frame, is)
			}
		}
	}
}

// TestExample is the chapter's example, and what is beside it.
func TestExample(t *testing.T) {
	m := machine{3, map[uint64]uint64{at(1, 5): word(9, v+r)}}.mem()
	page := api.Page{Va: 0x5000, Pa: 0x9000, Perm: api.Perm{R: true}}
	if l := table.Pages(m, 1, 0, 0); !slices.Equal(l, []api.Page{page}) {
		t.Errorf("Pages is %+v", l)
	}
	if l := table.Pages(m, 2, 0, 0); len(l) != 0 {
		t.Errorf("Pages of an empty tree is %+v", l)
	}
}

// P19.2: the pages, by rising indexes, of leaves that aren't bad; addresses are made canonical.
func TestPages(t *testing.T) {
	rx := api.Perm{R: true, X: true}
	for _, c := range []struct {
		words map[uint64]uint64
		top   uint64
		level int
		base  uint64
		pages []api.Page
	}{
		{nil, 1, 0, 0, nil},
		{nil, 1, 1, 0, nil},
		{nil, 1, 2, 0, nil},
		// the indexes 0 and 511, at each level
		{map[uint64]uint64{at(1, 0): word(3, v+r+x), at(1, 511): word(4, v+r+x+d)}, 1, 0, 0, []api.Page{
			{Va: 0, Pa: 0x3000, Perm: rx}, {Va: 0x1ff000, Pa: 0x4000, Perm: rx, Stored: true}}},
		{map[uint64]uint64{at(1, 0): word(512, v+r+x+d), at(1, 511): word(1024, v+r+x)}, 1, 1, 0, []api.Page{
			{Va: 0, Pa: 0x200000, Level: 1, Perm: rx, Stored: true}, {Va: 0x3fe00000, Pa: 0x400000, Level: 1, Perm: rx}}},
		{map[uint64]uint64{at(1, 0): word(0, v+r+x), at(1, 511): word(1<<44-1<<18, v+r+x)}, 1, 2, 0, []api.Page{
			{Va: 0, Pa: 0, Level: 2, Perm: rx}, {Va: 0xffffffffc0000000, Pa: 0xffffffc0000000, Level: 2, Perm: rx}}},
		// around the index 256 at the level 2
		{map[uint64]uint64{at(1, 255): word(0, v+r+x), at(1, 256): word(0, v+r+x), at(1, 257): word(0, v+r+x)}, 1, 2, 0, []api.Page{
			{Va: 0x3fc0000000, Level: 2, Perm: rx}, {Va: 0xffffffc000000000, Level: 2, Perm: rx}, {Va: 0xffffffc040000000, Level: 2, Perm: rx}}},
		// other bases
		{map[uint64]uint64{at(1, 5): word(3, v+r+x)}, 1, 0, 0x1000, []api.Page{{Va: 0x6000, Pa: 0x3000, Perm: rx}}},
		{map[uint64]uint64{at(1, 5): word(3, v+r+x)}, 1, 0, 0xffffffffffe00000, []api.Page{{Va: 0xffffffffffe05000, Pa: 0x3000, Perm: rx}}},
		{map[uint64]uint64{at(1, 5): word(3, v+r+x)}, 1, 0, 0xfffffffffffff000, []api.Page{{Va: 0x4000, Pa: 0x3000, Perm: rx}}},
		{map[uint64]uint64{at(1, 5): word(3, v+r+x)}, 1, 0, 0x3fffffd000, []api.Page{{Va: 0xffffffc000002000, Pa: 0x3000, Perm: rx}}},
		{map[uint64]uint64{at(1, 5): word(3, v+r+x)}, 1, 0, 1<<63 + 0x1000, []api.Page{{Va: 0x6000, Pa: 0x3000, Perm: rx}}},
		{map[uint64]uint64{at(1, 5): word(512, v+r+x)}, 1, 1, 0xffffffffc0000000, []api.Page{{Va: 0xffffffffc0a00000, Pa: 0x200000, Level: 1, Perm: rx}}},
		{map[uint64]uint64{at(1, 5): word(512, v+r+x)}, 1, 1, 0x7000, []api.Page{{Va: 0xa07000, Pa: 0x200000, Level: 1, Perm: rx}}},
		{map[uint64]uint64{at(1, 511): word(0, v+r+x)}, 1, 2, 0x40000000, []api.Page{{Va: 0, Level: 2, Perm: rx}}},
		// permissions
		{map[uint64]uint64{at(1, 1): word(1, v+r), at(1, 2): word(1, v+r+w), at(1, 3): word(1, v+x+u), at(1, 4): word(1, v+r+w+x+u+g+a+d+soft)}, 1, 0, 0, []api.Page{
			{Va: 0x1000, Pa: 0x1000, Perm: api.Perm{R: true}}, {Va: 0x2000, Pa: 0x1000, Perm: api.Perm{R: true, W: true}},
			{Va: 0x3000, Pa: 0x1000, Perm: api.Perm{X: true, U: true}}, {Va: 0x4000, Pa: 0x1000, Perm: api.Perm{R: true, W: true, X: true, U: true}, Stored: true}}},
		// entries that are bad
		{map[uint64]uint64{at(1, 1): word(2, v), at(1, 2): word(2, v+w+x), at(1, 3): word(2, r+x), at(1, 4): word(2, v+r+x+wide), at(1, 5): word(2, v+r+x)}, 1, 0, 0, []api.Page{
			{Va: 0x5000, Pa: 0x2000, Perm: rx}}},
		{map[uint64]uint64{at(1, 1): word(2, v+a), at(1, 2): word(513, v+r+x), at(1, 3): word(256, v+r+x), at(1, 4): word(1<<18, v+r+x), at(2, 1): word(3, v+r)}, 1, 1, 0, []api.Page{
			{Va: 0x800000, Pa: 1 << 30, Level: 1, Perm: rx}}},
		{map[uint64]uint64{at(1, 1): word(2, v+u), at(1, 2): word(512, v+r+x), at(1, 3): word(2, v+d), at(1, 4): word(1<<18, v+r+x), at(2, 1): word(512, v+r)}, 1, 2, 0, []api.Page{
			{Va: 4 << 30, Pa: 1 << 30, Level: 2, Perm: rx}}},
		// links, whose tables' pages stand among the others, by the frames' order or not
		{map[uint64]uint64{at(3, 1): word(1<<18, v+r+x), at(3, 2): word(1, v), at(3, 3): word(2<<18, v+r+x), at(1, 0): word(512, v+r+x), at(1, 7): word(2, v+g), at(1, 8): word(1024, v+r+x), at(2, 511): word(5, v+r+x)}, 3, 2, 0, []api.Page{
			{Va: 1 << 30, Pa: 1 << 30, Level: 2, Perm: rx}, {Va: 2 << 30, Pa: 0x200000, Level: 1, Perm: rx}, {Va: 2<<30 + 0xfff000, Pa: 0x5000, Perm: rx},
			{Va: 2<<30 + 0x1000000, Pa: 0x400000, Level: 1, Perm: rx}, {Va: 3 << 30, Pa: 2 << 30, Level: 2, Perm: rx}}},
		{map[uint64]uint64{at(1, 300): word(2, v), at(2, 0): word(512, v+r+x), at(1, 400): word(3, v)}, 1, 2, 0, []api.Page{
			{Va: 0xffffffcb00000000, Pa: 0x200000, Level: 1, Perm: rx}}},
	} {
		m := machine{4, c.words}.mem()
		if l := table.Pages(m, c.top, c.level, c.base); !slices.Equal(l, c.pages) {
			t.Errorf("Pages of %v, %d, %d, %#x, is %+v, not %+v", c.words, c.top, c.level, c.base, l, c.pages)
		}
	}
}

// bases are addresses at which trees begin, canonical and not.
var bases = []uint64{0, 0x1000, 0x200000, 0x40000000, 0x3fffe00000, 0x3ffffff000, 0x4000000000, 0x7fc0000000, 0x7ffffff000, 1 << 39, 0xffffffc000000000, 0xffffffffc0000000, 0xfffffffffffff000, 1 << 63, 0x123456789abcd000}

// P19.2: the pages and the frames of many trees are as the chapter tells them, of many bases.
func TestPagesAndFramesOfTrees(t *testing.T) {
	pages, tables := 0, 0
	see := func(tree tree) {
		m := tree.mem()
		for _, base := range bases {
			l, told := table.Pages(m, tree.top, tree.level, base), tree.pages(base)
			if !slices.Equal(l, told) {
				t.Fatalf("Pages(%+v, %#x) is %+v, not %+v", tree, base, l, told)
			}
			pages += len(l)
		}
		f, told := table.Frames(m, tree.top, tree.level), tree.tables()
		if !slices.Equal(f, told) {
			t.Fatalf("Frames(%+v) is %v, not %v", tree, f, told)
		}
		tables += len(f)
	}
	eachTree(see)
	if pages < 5000 || tables < 1000 {
		t.Errorf("%d pages and %d tables alone", pages, tables)
	}
	for n := 1; n <= 64; n++ {
		see(full(n))
	}
}

// P19.2: a tree may have 64 tables, and each of them 512 leaves.
func TestOfAsManyAsMayBe(t *testing.T) {
	whole := full(64)
	for frame := range whole.frames {
		for i := range uint64(512) {
			if whole.words[at(frame, i)] == 0 {
				whole.words[at(frame, i)] = word(i<<18, v+r+w)
			}
		}
	}
	m := whole.mem()
	if f := table.Frames(m, 1, 2); !slices.Equal(f, whole.tables()) || len(f) != 64 {
		t.Errorf("Frames are %d: %v", len(f), f)
	}
	if l := table.Pages(m, 1, 2, 0); !slices.Equal(l, whole.pages(0)) || len(l) != 64*512-63 {
		t.Errorf("Pages are %d", len(l))
	}
}

// P19.2: the frames, the top first, then those of each link, and of links in these, ahead of the next.
func TestFrames(t *testing.T) {
	for _, c := range []struct {
		words  map[uint64]uint64
		top    uint64
		level  int
		frames []uint64
	}{
		{nil, 0, 0, []uint64{0}},
		{nil, 7, 2, []uint64{7}},
		{map[uint64]uint64{at(1, 0): word(5, v+r)}, 1, 0, []uint64{1}},
		{map[uint64]uint64{at(1, 0): word(5, v)}, 1, 0, []uint64{1}},
		{map[uint64]uint64{at(1, 0): word(512, v+r), at(1, 1): word(5, v)}, 1, 1, []uint64{1, 5}},
		{map[uint64]uint64{at(1, 0): word(5, v), at(1, 255): word(2, v+g), at(1, 511): word(0, v+soft)}, 1, 1, []uint64{1, 5, 2, 0}},
		{map[uint64]uint64{at(1, 0): word(5, v), at(1, 1): word(2, v), at(5, 9): word(3, v), at(5, 8): word(7, v), at(2, 0): word(6, v)}, 1, 2, []uint64{1, 5, 7, 3, 2, 6}},
		{map[uint64]uint64{at(1, 0): word(5, v+a), at(1, 1): word(5, v+d), at(1, 2): word(5, v+u), at(1, 3): word(5, v+wide), at(1, 4): word(5, v+w), at(1, 5): word(5, 0), at(1, 6): word(5, g), at(1, 7): word(6, v), at(5, 0): word(4, v)}, 1, 2, []uint64{1, 6}},
		{map[uint64]uint64{at(1, 0): word(5, v), at(5, 0): word(4, v), at(4, 0): word(3, v)}, 1, 2, []uint64{1, 5, 4}},
	} {
		if l := table.Frames(machine{8, c.words}.mem(), c.top, c.level); !slices.Equal(l, c.frames) {
			t.Errorf("Frames of %v, %d, %d, is %v, not %v", c.words, c.top, c.level, l, c.frames)
		}
	}
}

// strewn tells a machine of so many frames, of which each third one is empty and each other one holds something at its ends or in its midst.
func strewn(frames uint64) machine {
	m := machine{frames, map[uint64]uint64{}}
	for f := range frames {
		switch f % 3 {
		case 0:
			m.words[at(f, 0)], m.words[at(f, 511)] = f+1, all
		case 1:
			m.words[at(f, 77)] = word(f, v+r)
		}
	}
	return m
}

// pools are such as are right, whose frames are all below 70.
func pools() (l []api.Pool) {
	for _, base := range []uint64{0, 1, 3, 6} {
		for _, many := range []int{1, 2, 3, 5, 63, 64} {
			full := all >> (64 - many)
			for _, free := range []uint64{0, 1, 2, 4, 6, 1 << (many - 1), full &^ (full >> 2), 0x5555, full, full - 1, full >> 1, 1 << 40, 0xf0f0f0f0f0f0f0f0} {
				l = append(l, api.Pool{Base: base, Many: many, Free: free & full})
			}
		}
		l = append(l, api.Pool{Base: base})
	}
	return l
}

// P19.3: the least free frame is taken, and holds nothing then; where none is free, all is as it was.
func TestFresh(t *testing.T) {
	m := strewn(70)
	for _, p := range pools() {
		i := 0
		for i < p.Many && p.Free>>i&1 == 0 {
			i++
		}
		frame, told, pool, err := p.Base+uint64(i), m.mem(), p, api.OK
		if i == p.Many {
			frame, err = 0, api.ErrFrames
		} else {
			told, pool.Free = m.without(frame).mem(), p.Free-1<<i
		}
		n, q, f, e := table.Fresh(m.mem(), p)
		if !same(n, told) || q != pool || f != frame || e != err {
			t.Errorf("Fresh(%+v) is %+v, %d, %d, not %+v, %d, %d", p, q, f, e, pool, frame, err)
		}
	}
}

// P19.3: of a pool of one frame, of many, and of none, written out.
func TestFreshWrittenOut(t *testing.T) {
	m := machine{6, map[uint64]uint64{at(2, 511): 7, at(3, 0): 8, at(3, 100): 9, at(3, 511): 10, at(4, 0): 11}}
	for _, c := range []struct {
		p, want api.Pool
		frame   uint64
		err     api.Errno
	}{
		{api.Pool{Base: 3, Many: 1, Free: 1}, api.Pool{Base: 3, Many: 1}, 3, api.OK},
		{api.Pool{Base: 1, Many: 5, Free: 0b11110}, api.Pool{Base: 1, Many: 5, Free: 0b11100}, 2, api.OK},
		{api.Pool{Base: 1, Many: 5, Free: 0b10000}, api.Pool{Base: 1, Many: 5}, 5, api.OK},
		{api.Pool{Many: 6, Free: 0b1001}, api.Pool{Many: 6, Free: 0b1000}, 0, api.OK},
		{api.Pool{Base: 3, Many: 1}, api.Pool{Base: 3, Many: 1}, 0, api.ErrFrames},
		{api.Pool{Base: 3}, api.Pool{Base: 3}, 0, api.ErrFrames},
		{api.Pool{}, api.Pool{}, 0, api.ErrFrames},
	} {
		told := m.mem()
		if c.err == api.OK {
			told = m.without(c.frame).mem()
		}
		n, q, f, e := table.Fresh(m.mem(), c.p)
		if !same(n, told) || q != c.want || f != c.frame || e != c.err {
			t.Errorf("Fresh(%+v) is %+v, %+v, %d, %d", c.p, n, q, f, e)
		}
	}
}

// P19.3: a frame that is given back holds nothing, and is free, and no other.
func TestBack(t *testing.T) {
	m := strewn(70)
	for _, p := range pools() {
		for i := range p.Many {
			if p.Free>>i&1 == 1 {
				continue
			}
			frame, pool := p.Base+uint64(i), p
			pool.Free += 1 << i
			if n, q := table.Back(m.mem(), p, frame); !same(n, m.without(frame).mem()) || q != pool {
				t.Fatalf("Back(%+v, %d) is %+v, not %+v", p, frame, q, pool)
			}
		}
	}
}

// P19.3: of frames in which there is something, at either end, and in which there isn't, written out.
func TestBackWrittenOut(t *testing.T) {
	m := machine{6, map[uint64]uint64{at(1, 511): 6, at(2, 0): 7, at(2, 511): 7, at(3, 0): 8, at(5, 0): 9, at(5, 511): 10}}
	for _, c := range []struct {
		p     api.Pool
		frame uint64
		free  uint64
		words map[uint64]uint64
	}{
		{api.Pool{Base: 2, Many: 4, Free: 0b0100}, 2, 0b0101, map[uint64]uint64{at(1, 511): 6, at(3, 0): 8, at(5, 0): 9, at(5, 511): 10}},
		{api.Pool{Base: 2, Many: 4, Free: 0b0100}, 5, 0b1100, map[uint64]uint64{at(1, 511): 6, at(2, 0): 7, at(2, 511): 7, at(3, 0): 8}},
		{api.Pool{Base: 2, Many: 4, Free: 0b1011}, 4, 0b1111, m.words},
		{api.Pool{Many: 6}, 0, 1, m.words},
		{api.Pool{Base: 5, Many: 1}, 5, 1, map[uint64]uint64{at(1, 511): 6, at(2, 0): 7, at(2, 511): 7, at(3, 0): 8}},
	} {
		n, q := table.Back(m.mem(), c.p, c.frame)
		c.p.Free = c.free
		if !same(n, machine{6, c.words}.mem()) || q != c.p {
			t.Errorf("Back of %d is %+v, %+v", c.frame, n, q)
		}
	}
}

// P19.3 and P19.4: frames that are taken, linked and given back are a tree, and then none.
func TestTaken(t *testing.T) {
	m, p := machine{9, map[uint64]uint64{at(8, 3): 5}}.mem(), api.Pool{Base: 1, Many: 4, Free: 15}
	m, p, top, _ := table.Fresh(m, p)
	addr := address(300, 200, 100, 0)
	for level := 2; level > 0; level-- {
		s := table.Reach(m, top, 2, addr, level)
		n, q, f, e := table.Fresh(m, p)
		if e != api.OK || s.Level != level {
			t.Fatalf("Fresh is %d, %d, of %+v", f, e, s)
		}
		m, p = table.With(n, s, addr, api.Pte{V: true, Ppn: f}), q
	}
	m = table.With(m, table.Reach(m, top, 2, addr, 0), addr, api.Pte{V: true, X: true, D: true, Ppn: 6})
	if l := table.Pages(m, top, 2, 0); !slices.Equal(l, []api.Page{{Va: addr, Pa: 0x6000, Perm: api.Perm{X: true}, Stored: true}}) {
		t.Errorf("Pages are %+v", l)
	}
	l := table.Frames(m, top, 2)
	if !slices.Equal(l, []uint64{1, 2, 3}) {
		t.Errorf("Frames are %v", l)
	}
	for _, f := range l {
		m, p = table.Back(m, p, f)
	}
	if !same(m, machine{9, map[uint64]uint64{at(8, 3): 5}}.mem()) || p != (api.Pool{Base: 1, Many: 4, Free: 15}) {
		t.Errorf("behind all there are %+v, %+v", m, p)
	}
}

// row is a memory's cells with the room behind them, as they were.
type row []api.Cell

// whole tells all cells of a memory and those in the room behind them.
func whole(m api.Mem) row {
	return slices.Clone(m.Cells[:cap(m.Cells)])
}

// spoil writes into all cells of a memory, and into the room behind them.
func spoil(m api.Mem) {
	l := m.Cells[:cap(m.Cells)]
	for i := range l {
		l[i] = api.Cell{At: 66, Val: 99}
	}
}

// shared tells the memory in which all is asked here: a tree of the top 1 and the level 2, and words in the frame 5.
func shared() machine {
	return machine{7, map[uint64]uint64{
		at(1, 0): word(2, v), at(2, 0): word(3, v), at(2, 9): word(512, v+r), at(3, 5): word(9, v+r+w+d), at(3, 6): word(4, v+x),
		at(1, 256): word(1<<18, v+r), at(5, 0): 5, at(5, 511): 6, at(6, 1): 7,
	}}
}

// changes are calls that answer another memory than they were handed.
func changes() map[string]func(m api.Mem) api.Mem {
	pool := api.Pool{Base: 4, Many: 3, Free: 0b011}
	full := api.Pool{Base: 4, Many: 3, Free: 0b010}
	return map[string]func(m api.Mem) api.Mem{
		"a leaf is written": func(m api.Mem) api.Mem {
			return table.With(m, want(3, 0, 0), 0x7000, api.Pte{V: true, R: true, Ppn: 3})
		},
		"a leaf is written over": func(m api.Mem) api.Mem {
			return table.With(m, want(3, 0, 0), 0x5000, api.Pte{V: true, R: true, Ppn: 3})
		},
		"an entry goes": func(m api.Mem) api.Mem {
			return table.With(m, want(1, 2, 0), 0, api.Pte{})
		},
		"a frame is taken": func(m api.Mem) api.Mem {
			n, _, _, _ := table.Fresh(m, full)
			return n
		},
		"a frame is given back": func(m api.Mem) api.Mem {
			n, _ := table.Back(m, pool, 6)
			return n
		},
	}
}

// asks are calls that answer no memory, told as text.
func asks() map[string]func(m api.Mem) string {
	return map[string]func(m api.Mem) string{
		"Reach": func(m api.Mem) string { return fmt.Sprint(table.Reach(m, 1, 2, 0x5000, 0)) },
		"Empty": func(m api.Mem) string { return fmt.Sprint(table.Empty(m, 4), table.Empty(m, 5)) },
		"Pages": func(m api.Mem) string {
			l := table.Pages(m, 1, 2, 0)
			told := fmt.Sprint(l)
			for i := range l[:cap(l)] {
				l[:cap(l)][i] = api.Page{Va: 77}
			}
			return told
		},
		"Frames": func(m api.Mem) string {
			l := table.Frames(m, 1, 2)
			told := fmt.Sprint(l)
			for i := range l[:cap(l)] {
				l[:cap(l)][i] = 77
			}
			return told
		},
		"Fresh of none": func(m api.Mem) string {
			n, p, f, e := table.Fresh(m, api.Pool{Base: 2, Many: 3})
			return fmt.Sprint(n, p, f, e)
		},
	}
}

// P19.5: what is handed in stays, the room behind a list included, and what is answered shares nothing with it.
func TestHandedInStays(t *testing.T) {
	for name, f := range changes() {
		m := shared().mem()
		before := whole(m)
		n := f(m)
		if !slices.Equal(whole(m), before) {
			t.Errorf("%s: the memory was changed", name)
		}
		if same(n, m) {
			t.Errorf("%s: the memory is as it was", name)
		}
		spoil(n)
		if !slices.Equal(whole(m), before) {
			t.Errorf("%s: the answer shares with what was handed in", name)
		}
	}
	for name, f := range asks() {
		m := shared().mem()
		before := whole(m)
		f(m)
		if !slices.Equal(whole(m), before) {
			t.Errorf("%s: the memory was changed", name)
		}
	}
}

// P19.5: nothing is kept from call to call, and one answer isn't another's.
func TestNothingIsKept(t *testing.T) {
	for name, f := range changes() {
		m := shared().mem()
		first, told := f(m), f(shared().mem())
		spoil(first)
		again := f(m)
		if !same(again, told) {
			t.Errorf("%s: again it is %+v, not %+v", name, again, told)
		}
		spoil(m)
		if !same(again, told) {
			t.Errorf("%s: the answer shares with what was handed in", name)
		}
		if same(first, told) {
			t.Errorf("%s: the answer wasn't spoilt", name)
		}
	}
	for name, f := range asks() {
		m := shared().mem()
		if first, again := f(m), f(m); first != again {
			t.Errorf("%s: again it is %s, not %s", name, again, first)
		}
	}
	m := shared().mem()
	pages, frames := table.Pages(m, 1, 2, 0), table.Frames(m, 1, 2)
	table.Pages(m, 2, 1, 0x1000)
	table.Frames(m, 2, 1)
	if told := (tree{shared(), 1, 2}); !slices.Equal(pages, told.pages(0)) || !slices.Equal(frames, told.tables()) {
		t.Errorf("behind other calls the pages are %+v, the frames %v", pages, frames)
	}
}

// P19.5: nil and empty lists are one.
func TestNilAndEmpty(t *testing.T) {
	pool := api.Pool{Many: 2, Free: 1}
	for _, m := range []api.Mem{{Size: 8192}, {Size: 8192, Cells: []api.Cell{}}} {
		leaf := table.With(m, want(0, 0, 0), 0x5000, entry(word(9, v+r)))
		if !same(leaf, machine{2, map[uint64]uint64{at(0, 5): word(9, v+r)}}.mem()) {
			t.Errorf("With is %+v", leaf)
		}
		gone := table.With(leaf, want(0, 0, 0), 0x5000, api.Pte{})
		taken, _, _, _ := table.Fresh(m, pool)
		back, _ := table.Back(m, pool, 1)
		for _, n := range []api.Mem{gone, taken, back} {
			if !same(n, m) {
				t.Errorf("the memory is %+v", n)
			}
		}
		if l := table.Pages(m, 0, 2, 0); len(l) != 0 {
			t.Errorf("Pages is %+v", l)
		}
		if !table.Empty(m, 1) || table.Reach(m, 0, 2, 0, 0) != want(0, 2, 0) || !slices.Equal(table.Frames(m, 0, 2), []uint64{0}) {
			t.Error("an empty memory holds something")
		}
	}
}

// odd are memories that aren't right, and such as have no right trees: links beyond the memory, to the table itself, and to one another.
func odd() []api.Mem {
	l := []api.Mem{
		{}, {Size: 1}, {Size: 4095}, {Size: all}, {Size: 1 << 41}, {Size: 4096, Cells: []api.Cell{{}, {}}},
		{Size: 8192, Cells: []api.Cell{{At: 9, Val: v}, {At: 3, Val: v + r}, {At: 3}, {At: all, Val: all}, {At: 512, Val: word(1, v)}}},
		{Cells: []api.Cell{{At: 5, Val: word(0, v)}, {At: 1 << 61, Val: all}}},
	}
	for _, e := range []uint64{word(0, v), word(1, v), word(7, v), word(1<<44-1, v), word(1<<44-1, v+r), all, v + r} {
		words := map[uint64]uint64{}
		for i := range uint64(1024) {
			words[i*8] = e
		}
		l = append(l, machine{2, map[uint64]uint64{at(0, 0): e, at(0, 511): e, at(1, 3): word(0, v)}}.mem(), machine{2, words}.mem())
	}
	words := map[uint64]uint64{}
	for i := range uint64(1536) {
		words[i*8] = word(i/512+1, []uint64{v, v, v + r}[i/512])
	}
	return append(l, machine{3, words}.mem())
}

// Of what isn't right nothing is promised, but no call panics, and all end.
func TestNoPanic(t *testing.T) {
	frames := []uint64{0, 1, 2, 7, 1 << 28, 1<<44 - 1, 1 << 52, 1<<52 + 1, 1 << 63, all}
	depths := []int{0, 1, 2, -1, 3, 4, 7, 63, 64, -64, 1 << 32, -1 << 60, 1 << 60, math.MinInt, math.MaxInt}
	addrs := []uint64{0, 5, 1 << 38, 1 << 39, 1 << 63, all, 0x123456789abcdef0}
	for _, m := range odd() {
		for _, f := range frames {
			table.Empty(m, f)
			for _, level := range depths {
				table.Frames(m, f, level)
				for _, addr := range addrs {
					for _, want := range depths {
						table.Reach(m, f, level, addr, want)
					}
					for _, p := range []api.Pte{{}, {Ppn: all}, {Rsw: 4}, {High: 1 << 10}, entry(all)} {
						table.With(m, api.Spot{Table: f, Level: level}, addr, p)
					}
				}
				table.Pages(m, f, level, f*4096+3)
			}
		}
	}
}

// Of pools that aren't right, or have frames beyond the memory, nothing is promised, but no call panics.
func TestNoPanicOfPools(t *testing.T) {
	for _, m := range odd() {
		for _, base := range []uint64{0, 1, 1 << 28, 1 << 52, 1 << 63, all} {
			for _, many := range []int{0, 1, 64, 65, -1, 1 << 32, math.MinInt, math.MaxInt} {
				for _, free := range []uint64{0, 1, 1 << 63, all} {
					p := api.Pool{Base: base, Many: many, Free: free}
					table.Fresh(m, p)
					for _, f := range []uint64{0, 1, base, base + 1, base + 63, base + 64, base - 1, all} {
						table.Back(m, p, f)
					}
				}
			}
		}
	}
}
