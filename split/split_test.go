package split_test

import (
	"fmt"
	"math"
	"slices"
	"testing"

	"atlas/api"
	"atlas/split"
	"atlas/table"
)

const all = ^uint64(0)

// The bits of an entry's word, told as numbers.
const (
	v = 1
	r = 2
	w = 4
	x = 8
	u = 0x10
	g = 0x20
	a = 0x40
	d = 0x80
	// low and soft are the bits of Rsw, wide the lowest of High, last its highest.
	low  = 1 << 8
	soft = 1 << 9
	wide = 1 << 54
	last = 1 << 63
)

// levels are the bytes of a page, spans its frames.
var (
	levels = []uint64{1 << 12, 1 << 21, 1 << 30}
	spans  = []uint64{1, 1 << 9, 1 << 18}
)

// at tells where the entry of that index is in the table of that frame.
func at(frame, index uint64) uint64 {
	return frame*4096 + index*8
}

// word tells the word of an entry of that frame.
func word(frame, bits uint64) uint64 {
	return frame*1024 + bits
}

// entry tells the entry of a word.
func entry(e uint64) api.Pte {
	return api.Pte{
		V: e&v != 0, R: e&r != 0, W: e&w != 0, X: e&x != 0, U: e&u != 0, G: e&g != 0, A: e&a != 0, D: e&d != 0,
		Rsw: e / 256 % 4, Ppn: e / 1024 % (1 << 44), High: e >> 54,
	}
}

// spot tells a spot, as it is written out.
func spot(frame uint64, level int, e uint64) api.Spot {
	return api.Spot{Table: frame, Level: level, Pte: entry(e)}
}

// address tells the canonical address of these indexes and that offset.
func address(high, mid, low, offset uint64) uint64 {
	return canonical(((high*512+mid)*512+low)*4096 + offset)
}

// canonical tells the canonical address of the lowest 39 bits.
func canonical(addr uint64) uint64 {
	addr %= 1 << 39
	if addr >= 1<<38 {
		addr += all - (1<<39 - 1)
	}
	return addr
}

// words are a memory's words that aren't 0, by their addresses.
type words map[uint64]uint64

// machine is a memory told by its words, and by how many frames it has.
type machine struct {
	frames uint64
	words  words
}

// mem tells the machine's memory, with room behind the list of its cells.
func (m machine) mem() api.Mem {
	row := []api.Cell{}
	for at, val := range m.words {
		if val != 0 {
			row = append(row, api.Cell{At: at / 8, Val: val})
		}
	}
	slices.SortFunc(row, func(a, b api.Cell) int { return int(a.At) - int(b.At) })
	n := len(row)
	row = append(row, api.Cell{At: 901, Val: 0xee}, api.Cell{At: 902, Val: 0xef})
	return api.Mem{Size: m.frames * 4096, Cells: row[:n]}
}

// told tells a memory as a machine.
func told(m api.Mem) machine {
	l := words{}
	for _, c := range m.Cells {
		l[c.At*8] = c.Val
	}
	return machine{m.Size / 4096, l}
}

// but tells the machine with other words.
func (m machine) but(other words) machine {
	n := words{}
	for k, val := range m.words {
		n[k] = val
	}
	for k, val := range other {
		n[k] = val
	}
	return machine{m.frames, n}
}

// wipe lets the frame's words go.
func (m machine) wipe(frame uint64) {
	for i := range uint64(512) {
		delete(m.words, at(frame, i))
	}
}

// empty tells whether the frame has no word that isn't 0.
func (m machine) empty(frame uint64) bool {
	for i := range uint64(512) {
		if m.words[at(frame, i)] != 0 {
			return false
		}
	}
	return true
}

// same tells whether two memories are the same; nil and empty lists are one.
func same(m, n api.Mem) bool {
	return m.Size == n.Size && slices.Equal(m.Cells, n.Cells)
}

// leaf tells whether a word is a leaf.
func leaf(e uint64) bool {
	return e&v != 0 && e&(r+x) != 0
}

// bad tells whether a word is a bad entry at the level.
func bad(e uint64, level int) bool {
	switch {
	case e&v == 0, e&w != 0 && e&r == 0, e>>54 != 0:
		return true
	case !leaf(e):
		return level == 0 || e&(a+d+u) != 0
	}
	return e>>10%(1<<44)%spans[level] != 0
}

// child tells the frame to which a link that isn't bad leads, and that it is such a one.
func child(e uint64, level int) (uint64, bool) {
	return e >> 10 % (1 << 44), !leaf(e) && !bad(e, level)
}

// taken tells the least free frame of a pool, the pool without it, and whether there is one.
func taken(p api.Pool) (uint64, api.Pool, bool) {
	for i := range p.Many {
		if p.Free>>i&1 == 1 {
			p.Free -= 1 << i
			return p.Base + uint64(i), p, true
		}
	}
	return 0, p, false
}

// tree is one that is told: its machine, its top's frame and its level.
type tree struct {
	machine
	top   uint64
	level int
}

// reached tells the spot of an address, and where its entry is.
func (t tree) reached(addr uint64, want int) (api.Spot, uint64) {
	place := at(t.top, addr/levels[t.level]%512)
	e := t.words[place]
	if frame, leads := child(e, t.level); leads && t.level > want {
		return tree{t.machine, frame, t.level - 1}.reached(addr, want)
	}
	return spot(t.top, t.level, e), place
}

// answer is what a call tells.
type answer struct {
	m machine
	p api.Pool
	s api.Spot
	e api.Errno
}

// down tells the way down, as the chapter has it.
func (t tree) down(p api.Pool, addr uint64, want int) answer {
	m, q, frame := t.but(nil), p, t.top
	for level := t.level; level > want; level-- {
		place := at(frame, addr/levels[level]%512)
		e := m.words[place]
		if leaf(e) {
			return answer{t.machine, p, api.Spot{}, api.ErrOver}
		}
		if e&v == 0 {
			fresh, left, ok := taken(q)
			if !ok {
				return answer{t.machine, p, api.Spot{}, api.ErrFrames}
			}
			m.wipe(fresh)
			e, q = word(fresh, v), left
			m.words[place] = e
		}
		frame = e >> 10
	}
	e := m.words[at(frame, addr/levels[want]%512)]
	return answer{m, q, spot(frame, want, e), api.OK}
}

// split tells the split of the leaf that stands there, as the chapter has it.
func (m machine) split(p api.Pool, place uint64, level int) answer {
	fresh, q, ok := taken(p)
	if !ok {
		return answer{m, p, api.Spot{}, api.ErrFrames}
	}
	e, n := m.words[place], m.but(nil)
	for i := range uint64(512) {
		n.words[at(fresh, i)] = e + word(i*spans[level-1], 0)
	}
	n.words[place] = word(fresh, v)
	return answer{n, q, api.Spot{}, api.OK}
}

// to tells the splits down to a level, as the chapter has it.
func (t tree) to(p api.Pool, addr uint64, want int) answer {
	now := answer{m: t.machine, p: p}
	for {
		s, place := tree{now.m, t.top, t.level}.reached(addr, want)
		if s.Level <= want || !leaf(now.m.words[place]) {
			now.s = s
			return now
		}
		now = now.m.split(now.p, place, s.Level)
		if now.e != api.OK {
			return answer{t.machine, p, api.Spot{}, now.e}
		}
	}
}

// prune tells the way pruned, as the chapter has it.
func (t tree) prune(p api.Pool, addr uint64) answer {
	m := t.but(nil)
	var links, frames []uint64
	frame := t.top
	for level := t.level; level > 0; level-- {
		link := at(frame, addr/levels[level]%512)
		next, leads := child(m.words[link], level)
		if !leads {
			break
		}
		links, frames, frame = append(links, link), append(frames, next), next
	}
	for i := len(links) - 1; i >= 0 && m.empty(frames[i]); i-- {
		delete(m.words, links[i])
		p.Free += 1 << (frames[i] - p.Base)
	}
	return answer{m: m, p: p}
}

// hold holds what a call answered against what is told.
func hold(t *testing.T, name string, m api.Mem, p api.Pool, s api.Spot, e api.Errno, want answer) {
	t.Helper()
	if !same(m, want.m.mem()) {
		t.Fatalf("%s: the memory is %+v, not %+v", name, brief(m), brief(want.m.mem()))
	}
	if p != want.p || s != want.s || e != want.e {
		t.Fatalf("%s is %+v, %+v, %d, not %+v, %+v, %d", name, p, s, e, want.p, want.s, want.e)
	}
}

// brief tells a memory as text, the first cells alone.
func brief(m api.Mem) string {
	return fmt.Sprintf("%d bytes, %d cells: %+v", m.Size, len(m.Cells), m.Cells[:min(len(m.Cells), 12)])
}

// downTo holds Down against what is told.
func downTo(t *testing.T, old tree, p api.Pool, addr uint64, to int, want answer) {
	t.Helper()
	m, q, s, e := split.Down(old.mem(), p, old.top, old.level, addr, to)
	hold(t, fmt.Sprintf("Down(%d, %d, %#x, %d)", old.top, old.level, addr, to), m, q, s, e, want)
}

// splitTo holds To against what is told.
func splitTo(t *testing.T, old tree, p api.Pool, addr uint64, to int, want answer) {
	t.Helper()
	m, q, s, e := split.To(old.mem(), p, old.top, old.level, addr, to)
	hold(t, fmt.Sprintf("To(%d, %d, %#x, %d)", old.top, old.level, addr, to), m, q, s, e, want)
}

// pruned holds Prune against what is told.
func pruned(t *testing.T, old tree, p api.Pool, addr uint64, want answer) {
	t.Helper()
	m, q := split.Prune(old.mem(), p, old.top, old.level, addr)
	hold(t, fmt.Sprintf("Prune(%d, %d, %#x)", old.top, old.level, addr), m, q, api.Spot{}, api.OK, want)
}

// six is a pool of the frames 2 to 7, of which those are free.
func six(free uint64) api.Pool {
	return api.Pool{Base: 2, Many: 6, Free: free}
}

// downs are cases of Down, of the top 1 in a memory of 9 frames; addresses have the indexes 3, 4 and 5.
var downs = []struct {
	level, want int
	words       words
	free, left  uint64
	put         words
	spot        api.Spot
	err         api.Errno
}{
	// nothing is on the way: a table is taken for each level
	{0, 0, nil, 0b111111, 0b111111, nil, spot(1, 0, 0), api.OK},
	{1, 0, nil, 0b111111, 0b111110, words{at(1, 4): word(2, v)}, spot(2, 0, 0), api.OK},
	{1, 1, nil, 0b111111, 0b111111, nil, spot(1, 1, 0), api.OK},
	{2, 0, nil, 0b111111, 0b111100, words{at(1, 3): word(2, v), at(2, 4): word(3, v)}, spot(3, 0, 0), api.OK},
	{2, 1, nil, 0b111111, 0b111110, words{at(1, 3): word(2, v)}, spot(2, 1, 0), api.OK},
	{2, 2, nil, 0b111111, 0b111111, nil, spot(1, 2, 0), api.OK},
	// the least free frames are taken, and no more than there are levels
	{2, 0, nil, 0b101000, 0, words{at(1, 3): word(5, v), at(5, 4): word(7, v)}, spot(7, 0, 0), api.OK},
	{2, 1, nil, 0b101000, 0b100000, words{at(1, 3): word(5, v)}, spot(5, 1, 0), api.OK},
	{1, 0, nil, 0b100000, 0, words{at(1, 4): word(7, v)}, spot(7, 0, 0), api.OK},
	// what is beside the way leads nowhere
	{2, 0, words{at(1, 2): word(4, v), at(1, 4): word(1<<18, v+r), at(4, 4): word(6, v)}, 0b101011, 0b101000, words{at(1, 3): word(2, v), at(2, 4): word(3, v)}, spot(3, 0, 0), api.OK},
	{1, 0, words{at(1, 3): word(4, v), at(1, 5): word(512, v+r)}, 0b111011, 0b111010, words{at(1, 4): word(2, v)}, spot(2, 0, 0), api.OK},
	// some of it is there
	{2, 0, words{at(1, 3): word(6, v)}, 0b100011, 0b100010, words{at(6, 4): word(2, v)}, spot(2, 0, 0), api.OK},
	{2, 0, words{at(1, 3): word(6, v+g+soft), at(6, 5): word(512, v+x)}, 0b100010, 0b100000, words{at(6, 4): word(3, v)}, spot(3, 0, 0), api.OK},
	{2, 1, words{at(1, 3): word(6, v)}, 0, 0, nil, spot(6, 1, 0), api.OK},
	// all of it is there: at the level there is a leaf, a link or nothing
	{0, 0, words{at(1, 5): word(9, v+x)}, 0, 0, nil, spot(1, 0, word(9, v+x)), api.OK},
	{1, 0, words{at(1, 4): word(6, v+g)}, 0, 0, nil, spot(6, 0, 0), api.OK},
	{1, 0, words{at(1, 4): word(6, v), at(6, 5): word(77, v+r+w+d)}, 0b1, 0b1, nil, spot(6, 0, word(77, v+r+w+d)), api.OK},
	{1, 1, words{at(1, 4): word(6, v), at(6, 5): word(77, v+r)}, 0b1, 0b1, nil, spot(1, 1, word(6, v)), api.OK},
	{1, 1, words{at(1, 4): word(512, v+r+w+x+u+g+a+d+soft)}, 0, 0, nil, spot(1, 1, word(512, v+r+w+x+u+g+a+d+soft)), api.OK},
	{2, 0, words{at(1, 3): word(7, v), at(7, 4): word(2, v)}, 0, 0, nil, spot(2, 0, 0), api.OK},
	{2, 0, words{at(1, 3): word(7, v), at(7, 4): word(2, v), at(2, 5): word(1<<44-1, v+x+u)}, 0b10, 0b10, nil, spot(2, 0, word(1<<44-1, v+x+u)), api.OK},
	{2, 1, words{at(1, 3): word(7, v), at(7, 4): word(2, v), at(2, 5): word(1, v+x)}, 0b10, 0b10, nil, spot(7, 1, word(2, v)), api.OK},
	{2, 1, words{at(1, 3): word(7, v), at(7, 4): word(1024, v+r)}, 0, 0, nil, spot(7, 1, word(1024, v+r)), api.OK},
	{2, 2, words{at(1, 3): word(7, v+low), at(7, 4): word(2, v)}, 0b10, 0b10, nil, spot(1, 2, word(7, v+low)), api.OK},
	{2, 2, words{at(1, 3): word(1<<18, v+r+w)}, 0b10, 0b10, nil, spot(1, 2, word(1<<18, v+r+w)), api.OK},
	// a leaf stands above it
	{1, 0, words{at(1, 4): word(512, v+r)}, 0b111111, 0b111111, nil, api.Spot{}, api.ErrOver},
	{1, 0, words{at(1, 4): word(0, v+x)}, 0b111111, 0b111111, nil, api.Spot{}, api.ErrOver},
	{2, 0, words{at(1, 3): word(1<<18, v+x+d)}, 0b111111, 0b111111, nil, api.Spot{}, api.ErrOver},
	{2, 1, words{at(1, 3): word(1<<18, v+r+x)}, 0b111111, 0b111111, nil, api.Spot{}, api.ErrOver},
	{2, 0, words{at(1, 3): word(6, v), at(6, 4): word(512, v+r+a)}, 0b101111, 0b101111, nil, api.Spot{}, api.ErrOver},
	// one that is bad is a leaf, too
	{1, 0, words{at(1, 4): word(5, v+r)}, 0b111111, 0b111111, nil, api.Spot{}, api.ErrOver},
	{2, 1, words{at(1, 3): word(512, v+w+x)}, 0b111111, 0b111111, nil, api.Spot{}, api.ErrOver},
	{2, 0, words{at(1, 3): word(6, v), at(6, 4): word(512, v+r+last)}, 0b101111, 0b101111, nil, api.Spot{}, api.ErrOver},
	// frames lack for the first table, and for the second one
	{1, 0, nil, 0, 0, nil, api.Spot{}, api.ErrFrames},
	{2, 0, nil, 0, 0, nil, api.Spot{}, api.ErrFrames},
	{2, 1, nil, 0, 0, nil, api.Spot{}, api.ErrFrames},
	{2, 0, nil, 0b1, 0b1, nil, api.Spot{}, api.ErrFrames},
	{2, 0, nil, 0b100000, 0b100000, nil, api.Spot{}, api.ErrFrames},
	{2, 0, words{at(1, 3): word(6, v+g)}, 0, 0, nil, api.Spot{}, api.ErrFrames},
	// a leaf is met, and frames lack, too
	{1, 0, words{at(1, 4): word(512, v+r)}, 0, 0, nil, api.Spot{}, api.ErrOver},
	{2, 0, words{at(1, 3): word(1<<18, v+x)}, 0, 0, nil, api.Spot{}, api.ErrOver},
	{2, 1, words{at(1, 3): word(1<<18, v+x)}, 0, 0, nil, api.Spot{}, api.ErrOver},
	{2, 0, words{at(1, 3): word(6, v), at(6, 4): word(512, v+r)}, 0, 0, nil, api.Spot{}, api.ErrOver},
	{2, 0, words{at(1, 3): word(1<<18, v+x)}, 0b1, 0b1, nil, api.Spot{}, api.ErrOver},
}

// P20.1: what is on the way, and what isn't, of each want and each level of trees, written out.
func TestDown(t *testing.T) {
	for _, c := range downs {
		old := tree{machine{9, words{at(0, 3): 8, at(8, 0): 9, at(8, 511): all}}.but(c.words), 1, c.level}
		want := answer{old.but(c.put), six(c.left), c.spot, c.err}
		downTo(t, old, six(c.free), address(3, 4, 5, 0), c.want, want)
		downTo(t, old, six(c.free), address(3, 4, 5, 0xabc), c.want, want)
		// the indexes above the tree's level count for nothing
		if c.level < 2 {
			downTo(t, old, six(c.free), address(511, 4, 5, 0xfff), c.want, want)
		}
		if c.level < 1 {
			downTo(t, old, six(c.free), address(256, 511, 5, 0), c.want, want)
		}
	}
}

// P20.1: the tables that are taken are empty, whatever was in their frames; those that aren't keep what they have.
func TestDownOfFramesThatHold(t *testing.T) {
	junk := words{at(1, 9): word(1<<18, v+x), at(8, 0): 9}
	for f := uint64(2); f < 8; f++ {
		junk[at(f, 0)], junk[at(f, 3)], junk[at(f, 4)], junk[at(f, 5)], junk[at(f, 511)] = f, all, word(f, v), word(1<<18, v+r), f
	}
	old := tree{machine{9, junk}, 1, 2}
	addr := address(3, 4, 5, 8)
	for to, want := range []answer{
		{old.but(words{at(1, 3): word(3, v), at(5, 4): 0}), six(0b001000), spot(6, 0, 0), api.OK},
		{old.but(words{at(1, 3): word(3, v)}), six(0b011000), spot(3, 1, 0), api.OK},
		{old.machine, six(0b011010), spot(1, 2, 0), api.OK},
	} {
		if to < 2 {
			want.m.wipe(3)
		}
		if to < 1 {
			want.m.wipe(5)
			want.m.words[at(3, 4)] = word(5, v)
			want.p, want.s = six(0b010000), spot(5, 0, 0)
		}
		downTo(t, old, six(0b011010), addr, to, want)
	}
}

// P20.1: of addresses at either end, and around the midst; the top may be one of the pool's.
func TestDownOfAddresses(t *testing.T) {
	for _, high := range []uint64{0, 1, 255, 256, 511} {
		for _, mid := range []uint64{0, 256, 511} {
			for _, index := range []uint64{0, 255, 511} {
				addr := address(high, mid, index, 4095)
				for level := range 3 {
					for want := 0; want <= level; want++ {
						p := api.Pool{Many: 5, Free: 0b11110}
						old := tree{machine{5, words{}}, 0, level}
						downTo(t, old, p, addr, want, old.down(p, addr, want))
					}
				}
			}
		}
	}
}

// grown is a tree under way: numbers come of a rule, frames of another.
type grown struct {
	machine
	seed, frame uint64
	left        int
	used        uint64
}

// next tells the next number below n.
func (t *grown) next(n uint64) uint64 {
	t.seed = t.seed*6364136223846793005 + 1442695040888963407
	return t.seed >> 33 % n
}

// base is the first frame of the pools of trees that are grown.
const base = 3

// leaves are bits of leaves, the last ones of such as are bad.
var leaves = []uint64{
	v + r, v + r + w, v + x, v + r + x + u, v + r + w + x + u + g + a + d, v + r + a, v + r + d, v + r + w + d, v + x + g, v + r + soft, v + r + low, v + x + a + low + soft,
	v + w + x, v + r + wide, v + x + last,
}

// links are bits of links.
var links = []uint64{v, v, v, v + g, v + soft, v + low + soft + g}

// leaf tells the next leaf: where it leads, its entries have room for one above it.
func (t *grown) leaf(level int) uint64 {
	frame := t.next(1<<12) * spans[level]
	switch t.next(8) {
	case 0:
		frame += 1 + t.next(9)
	case 1:
		frame = 1<<44 - spans[level]
	}
	return word(frame, leaves[t.next(uint64(len(leaves)))])
}

// index tells the next index; there are few, so that ways meet.
func (t *grown) index() uint64 {
	return []uint64{0, 1, 5, 256, 511}[t.next(5)]
}

// grow tells the frame of the next table of that level, and of all under it. Many have nothing, or a link alone, so that ways are pruned.
func (t *grown) grow(level int) uint64 {
	t.left--
	t.frame = (t.frame*5 + 3) % 32
	t.used |= 1 << t.frame
	frame := base + t.frame
	for range uint64(level) + t.next(3) {
		place := at(frame, t.index())
		switch {
		case t.words[place] != 0:
		case level > 0 && t.left > 0 && t.next(5) < 4:
			t.words[place] = word(t.grow(level-1), links[t.next(uint64(len(links)))])
		default:
			t.words[place] = t.leaf(level)
		}
	}
	return frame
}

// eachTree goes through many trees of all levels, whose tables are of a pool of 32 frames, some or all of the others free, and their frames not always empty.
func eachTree(many uint64, see func(t tree, p api.Pool)) {
	for n := range many {
		g := grown{machine{40, words{at(0, 5): 7, at(2, 511): all, at(35, 0): v + r, at(39, 511): 8}}, n * 77, n * 7, 20, 0}
		level := 2 - int(n%5%3)
		top := g.grow(level)
		p := api.Pool{Base: base, Many: 32}
		free := (1<<32 - 1) &^ g.used
		switch n % 4 {
		case 0:
			p.Free = free
		case 1:
			p.Free = free & 0xff00ff00 &^ 0x5555
		case 2:
			p.Free = free & -free
		}
		for i := range uint64(32) {
			if g.used>>i&1 == 0 && g.next(3) == 0 {
				g.words[at(base+i, g.index())] = word(g.next(64), v)
			}
		}
		see(tree{g.machine, top, level}, p)
	}
}

// eachWay goes through addresses of all indexes that trees which are grown have, and of one that none has.
func eachWay(see func(addr uint64)) {
	for i, high := range []uint64{0, 1, 256, 511} {
		for j, mid := range []uint64{0, 5, 77, 511} {
			for k, index := range []uint64{1, 256, 300} {
				see(address(high, mid, index, uint64(i*997+j*331+k*17)))
			}
		}
	}
}

// P20.1: the ways down in many trees are as the chapter tells them.
func TestDownOfTrees(t *testing.T) {
	met := map[string]int{}
	eachTree(120, func(old tree, p api.Pool) {
		eachWay(func(addr uint64) {
			for to := 0; to <= old.level; to++ {
				want := old.down(p, addr, to)
				downTo(t, old, p, addr, to, want)
				met[fmt.Sprint(want.e, want.p.Free == p.Free, want.s.Level, want.s.Pte.V)]++
			}
		})
	})
	// of each level something is taken or not, and something there or not; and each error is met
	for _, kind := range []string{
		"0 false 0 false", "0 false 1 false", "0 true 0 false", "0 true 1 false", "0 true 2 false", "0 true 0 true", "0 true 1 true", "0 true 2 true", "6 true 0 false", "8 true 0 false",
	} {
		if met[kind] < 50 {
			t.Errorf("%d ways of %s", met[kind], kind)
		}
	}
	if len(met) != 10 {
		t.Errorf("met are %v", met)
	}
}

// frame tells what stands at each index in the table of that frame of a memory.
func frame(m api.Mem, f uint64) (l [512]uint64) {
	for _, c := range m.Cells {
		if c.At/512 == f {
			l[c.At%512] = c.Val
		}
	}
	return l
}

// P20.2: the 512 entries lead to frames one apart, or 512 apart, and all else of them is the leaf's; all other words stay.
func TestLeaf(t *testing.T) {
	for level := 1; level <= 2; level++ {
		for i, bits := range append(slices.Clone(leaves), v+r+w+x+u+g+a+d+low+soft, v+r+w+u+a, v+x+d+u) {
			begin := []uint64{0, spans[level], 1<<44 - spans[level], 7 * spans[level], 5, 1<<43 + 1}[i%6]
			e, addr := word(begin, bits), address(3, 4, uint64(i*29), uint64(i*211))
			index := addr / levels[level] % 512
			m := machine{9, words{at(1, index): e, at(1, (index+1)%512): e, at(4, 0): 5, at(4, 99): 8, at(4, 511): 6, at(3, 511): 7, at(5, 0): 8}}
			n, q, err := split.Leaf(m.mem(), six(0b100100), spot(1, level, e), addr)
			if err != api.OK || q != six(0b100000) {
				t.Fatalf("Leaf(%d, %#x) is %+v, %d", level, e, q, err)
			}
			apart := []uint64{0, 1, 512}[level]
			for i, got := range frame(n, 4) {
				if want := word(begin+uint64(i)*apart, bits); got != want {
					t.Fatalf("Leaf(%d, %#x): at the index %d is %#x, not %#x", level, e, i, got, want)
				}
			}
			want := m.but(words{at(1, index): word(4, v)})
			want.wipe(4)
			rest := told(n)
			rest.wipe(4)
			if !same(rest.mem(), want.mem()) {
				t.Fatalf("Leaf(%d, %#x): all else is %s", level, e, brief(rest.mem()))
			}
		}
	}
}

// P20.2: of a pool of one free frame, and of none, of which nothing is changed.
func TestLeafOfFewFrames(t *testing.T) {
	for level := 1; level <= 2; level++ {
		e, addr := word(spans[level], v+r+w+d), address(300, 200, 100, 77)
		place := at(1, addr/levels[level]%512)
		m := machine{9, words{place: e, at(2, 0): 1, at(7, 511): 8}}
		for _, p := range []api.Pool{six(0), {Base: 2}, {}, {Base: 7, Many: 1}, six(0b1), six(0b100000), {Base: 7, Many: 1, Free: 1}, {Base: 0, Many: 9, Free: 0b100}} {
			n, q, err := split.Leaf(m.mem(), p, spot(1, level, e), addr)
			want := m.split(p, place, level)
			hold(t, fmt.Sprintf("Leaf(%d, %+v)", level, p), n, q, api.Spot{}, err, want)
			if (err == api.OK) != (p.Free != 0) || p.Free == 0 && err != api.ErrFrames {
				t.Errorf("Leaf(%d, %+v) is %d", level, p, err)
			}
		}
	}
}

// tos are cases of To, of the top 1 in a memory of 9 frames, whose address has the indexes 3, 4 and 5; splits are the places and levels of what is split, ahead of the first one that lacks a frame.
var tos = []struct {
	level, want int
	words       words
	free        uint64
	splits      []place
	spot        api.Spot
	err         api.Errno
}{
	// a leaf above: split once, and twice
	{1, 0, words{at(1, 4): word(512, v+r+w)}, 0b111111, []place{{at(1, 4), 1}}, spot(2, 0, word(517, v+r+w)), api.OK},
	{2, 1, words{at(1, 3): word(1<<18, v+r+d)}, 0b111111, []place{{at(1, 3), 2}}, spot(2, 1, word(1<<18+4*512, v+r+d)), api.OK},
	{2, 0, words{at(1, 3): word(1<<18, v+x+g+a)}, 0b111111, []place{{at(1, 3), 2}, {at(2, 4), 1}}, spot(3, 0, word(1<<18+4*512+5, v+x+g+a)), api.OK},
	{2, 0, words{at(1, 3): word(7, v), at(7, 4): word(1024, v+x+u)}, 0b011111, []place{{at(7, 4), 1}}, spot(2, 0, word(1029, v+x+u)), api.OK},
	// as few frames as will do
	{1, 0, words{at(1, 4): word(512, v+r+w)}, 0b001000, []place{{at(1, 4), 1}}, spot(5, 0, word(517, v+r+w)), api.OK},
	{2, 1, words{at(1, 3): word(0, v+r)}, 0b100000, []place{{at(1, 3), 2}}, spot(7, 1, word(4*512, v+r)), api.OK},
	{2, 0, words{at(1, 3): word(0, v+r)}, 0b100010, []place{{at(1, 3), 2}, {at(3, 4), 1}}, spot(7, 0, word(4*512+5, v+r)), api.OK},
	// a leaf that is bad is split, too
	{2, 0, words{at(1, 3): word(1<<18, v+w+x)}, 0b000011, []place{{at(1, 3), 2}, {at(2, 4), 1}}, spot(3, 0, word(1<<18+4*512+5, v+w+x)), api.OK},
	// no leaf
	{0, 0, nil, 0b111111, nil, spot(1, 0, 0), api.OK},
	{1, 0, nil, 0b111111, nil, spot(1, 1, 0), api.OK},
	{2, 0, nil, 0b111111, nil, spot(1, 2, 0), api.OK},
	{2, 0, nil, 0, nil, spot(1, 2, 0), api.OK},
	{2, 1, nil, 0b111111, nil, spot(1, 2, 0), api.OK},
	{2, 0, words{at(1, 3): word(7, v)}, 0b011111, nil, spot(7, 1, 0), api.OK},
	{2, 1, words{at(1, 3): word(7, v)}, 0b011111, nil, spot(7, 1, 0), api.OK},
	{2, 0, words{at(1, 3): word(7, v), at(7, 4): word(6, v)}, 0b001111, nil, spot(6, 0, 0), api.OK},
	{2, 1, words{at(1, 3): word(7, v), at(7, 4): word(6, v), at(6, 5): word(9, v+x)}, 0b001111, nil, spot(7, 1, word(6, v)), api.OK},
	{2, 2, words{at(1, 3): word(7, v+g), at(7, 4): word(512, v+r)}, 0b011111, nil, spot(1, 2, word(7, v+g)), api.OK},
	// a leaf at the level
	{0, 0, words{at(1, 5): word(9, v+r)}, 0b111111, nil, spot(1, 0, word(9, v+r)), api.OK},
	{1, 0, words{at(1, 4): word(7, v), at(7, 5): word(9, v+r)}, 0b011111, nil, spot(7, 0, word(9, v+r)), api.OK},
	{1, 1, words{at(1, 4): word(512, v+r)}, 0b111111, nil, spot(1, 1, word(512, v+r)), api.OK},
	{2, 1, words{at(1, 3): word(7, v), at(7, 4): word(512, v+r)}, 0, nil, spot(7, 1, word(512, v+r)), api.OK},
	{2, 2, words{at(1, 3): word(1<<18, v+r)}, 0b111111, nil, spot(1, 2, word(1<<18, v+r)), api.OK},
	// frames lack for the first split, and for the second one
	{1, 0, words{at(1, 4): word(512, v+r)}, 0, nil, api.Spot{}, api.ErrFrames},
	{2, 1, words{at(1, 3): word(1<<18, v+r)}, 0, nil, api.Spot{}, api.ErrFrames},
	{2, 0, words{at(1, 3): word(1<<18, v+r)}, 0, nil, api.Spot{}, api.ErrFrames},
	{2, 0, words{at(1, 3): word(7, v), at(7, 4): word(512, v+r)}, 0, nil, api.Spot{}, api.ErrFrames},
	{2, 0, words{at(1, 3): word(1<<18, v+r)}, 0b1, nil, api.Spot{}, api.ErrFrames},
	{2, 0, words{at(1, 3): word(1<<18, v+r)}, 0b100000, nil, api.Spot{}, api.ErrFrames},
}

// place is where an entry is, and at which level.
type place struct {
	at    uint64
	level int
}

// P20.2: what covers the address is split down to the level, or stays, written out.
func TestTo(t *testing.T) {
	for _, c := range tos {
		old := tree{machine{9, words{at(0, 3): 8, at(2, 4): 9, at(3, 5): 9, at(8, 511): all}}.but(c.words), 1, c.level}
		now := answer{m: old.machine, p: six(c.free)}
		for _, s := range c.splits {
			now = now.m.split(now.p, s.at, s.level)
		}
		now.s, now.e = c.spot, c.err
		splitTo(t, old, six(c.free), address(3, 4, 5, 0), c.want, now)
		splitTo(t, old, six(c.free), address(3, 4, 5, 4095), c.want, now)
	}
}

// P20.2: the splits in many trees are as the chapter tells them.
func TestToOfTrees(t *testing.T) {
	met := map[string]int{}
	eachTree(150, func(old tree, p api.Pool) {
		eachWay(func(addr uint64) {
			for to := 0; to <= old.level; to++ {
				want := old.to(p, addr, to)
				kind := fmt.Sprint(want.e, len(want.m.words)-len(old.words) > 0, want.s.Level, want.s.Pte.V)
				if met[kind]++; met[kind] <= 60 {
					splitTo(t, old, p, addr, to, want)
				}
			}
		})
	})
	for _, kind := range []string{"0 true 0 true", "0 true 1 true", "0 false 0 false", "0 false 1 false", "0 false 2 false", "0 false 0 true", "0 false 1 true", "0 false 2 true", "8 false 0 false"} {
		if met[kind] < 50 {
			t.Errorf("%d of %s", met[kind], kind)
		}
	}
}

// prunes are cases of Prune, of the top 1 in a memory of 9 frames; addresses have the indexes 3, 4 and 5.
var prunes = []struct {
	level      int
	words      words
	free, left uint64
	put        words
}{
	// the lowest table is empty
	{1, words{at(1, 4): word(2, v)}, 0b111110, 0b111111, words{at(1, 4): 0}},
	{1, words{at(1, 4): word(7, v+g+soft), at(1, 5): word(512, v+r)}, 0b011111, 0b111111, words{at(1, 4): 0}},
	{2, words{at(1, 3): word(2, v), at(2, 4): word(3, v), at(2, 5): word(512, v+r)}, 0b111100, 0b111110, words{at(2, 4): 0}},
	{2, words{at(1, 3): word(2, v), at(2, 4): word(3, v), at(2, 0): word(4, v)}, 0b100000, 0b100010, words{at(2, 4): 0}},
	{2, words{at(1, 3): word(2, v), at(2, 4): word(3, v), at(2, 511): word(512, v+x)}, 0b111100, 0b111110, words{at(2, 4): 0}},
	// there are two of a way that is gone to the level 1 alone
	{2, words{at(1, 3): word(2, v)}, 0b111110, 0b111111, words{at(1, 3): 0}},
	{2, words{at(1, 3): word(7, v), at(1, 4): word(2, v)}, 0b011110, 0b111110, words{at(1, 3): 0}},
	// two are
	{2, words{at(1, 3): word(2, v), at(2, 4): word(3, v)}, 0b111100, 0b111111, words{at(1, 3): 0, at(2, 4): 0}},
	{2, words{at(1, 3): word(7, v), at(7, 4): word(2, v+g), at(1, 2): word(3, v)}, 0, 0b100001, words{at(1, 3): 0, at(7, 4): 0}},
	// none is
	{1, words{at(1, 4): word(2, v), at(2, 5): word(9, v+r)}, 0b111110, 0b111110, nil},
	{1, words{at(1, 4): word(2, v), at(2, 0): word(9, v+r)}, 0b111110, 0b111110, nil},
	{1, words{at(1, 4): word(2, v), at(2, 511): word(9, v+r)}, 0b111110, 0b111110, nil},
	{2, words{at(1, 3): word(2, v), at(2, 4): word(3, v), at(3, 5): word(9, v+r), at(2, 6): word(512, v+r)}, 0b111100, 0b111100, nil},
	{2, words{at(1, 3): word(2, v), at(2, 5): word(3, v)}, 0b111100, 0b111100, nil},
	// the lowest one isn't empty, but the one above it would be
	{2, words{at(1, 3): word(2, v), at(2, 4): word(3, v), at(3, 5): word(9, v+r)}, 0b111100, 0b111100, nil},
	{2, words{at(1, 3): word(2, v), at(2, 4): word(3, v), at(3, 0): word(9, v+x)}, 0b111100, 0b111100, nil},
	{2, words{at(1, 3): word(2, v), at(2, 4): word(3, v), at(3, 511): word(9, v+x)}, 0b111100, 0b111100, nil},
	// the top alone is empty, and stays
	{0, nil, 0b111111, 0b111111, nil},
	{1, nil, 0b111111, 0b111111, nil},
	{2, nil, 0b111111, 0b111111, nil},
	// and it stays when it is empty behind that
	{1, words{at(1, 4): word(6, v)}, 0, 0b010000, words{at(1, 4): 0}},
	// the way ends at a leaf, or at nothing, above the lowest level
	{1, words{at(1, 4): word(512, v+r)}, 0b111111, 0b111111, nil},
	{2, words{at(1, 3): word(1<<18, v+r)}, 0b111111, 0b111111, nil},
	{2, words{at(1, 3): word(2, v), at(2, 4): word(512, v+r)}, 0b111110, 0b111110, nil},
	{2, words{at(1, 3): word(2, v), at(2, 4): word(513, v+r)}, 0b111110, 0b111110, nil},
	{2, words{at(1, 2): word(2, v), at(2, 4): word(3, v)}, 0b111100, 0b111100, nil},
	{0, words{at(1, 5): word(9, v+r)}, 0b111111, 0b111111, nil},
}

// P20.3: which tables are given back, and which links go, written out.
func TestPrune(t *testing.T) {
	for _, c := range prunes {
		old := tree{machine{9, words{at(0, 3): 8, at(8, 0): 9, at(8, 511): all}}.but(c.words), 1, c.level}
		want := answer{m: old.but(c.put), p: six(c.left)}
		pruned(t, old, six(c.free), address(3, 4, 5, 0), want)
		pruned(t, old, six(c.free), address(3, 4, 511, 4095), want)
	}
}

// P20.3: the top is no other than the others, but it stays, even where it is the pool's, and empty.
func TestPruneOfThePool(t *testing.T) {
	addr := address(511, 511, 511, 0xfff)
	for level := range 3 {
		p := api.Pool{Many: 3, Free: 0b110}
		pruned(t, tree{machine{3, nil}, 0, level}, p, addr, answer{m: machine{3, nil}, p: p})
	}
	two := tree{machine{3, words{at(0, 511): word(2, v), at(2, 511): word(1, v)}}, 0, 2}
	pruned(t, two, api.Pool{Many: 3}, addr, answer{m: machine{3, nil}, p: api.Pool{Many: 3, Free: 0b110}})
	pruned(t, tree{two.machine, 2, 1}, api.Pool{Many: 3}, addr, answer{m: machine{3, words{at(0, 511): word(2, v)}}, p: api.Pool{Many: 3, Free: 0b010}})
	pruned(t, tree{two.machine, 1, 0}, api.Pool{Many: 3}, addr, answer{m: two.machine, p: api.Pool{Many: 3}})
}

// P20.3: the ways of many trees are pruned as the chapter tells.
func TestPruneOfTrees(t *testing.T) {
	gone := [3]int{}
	eachTree(300, func(old tree, p api.Pool) {
		eachWay(func(addr uint64) {
			want := old.prune(p, addr)
			pruned(t, old, p, addr, want)
			gone[len(old.words)-len(want.m.words)]++
		})
	})
	for n, times := range gone {
		if times < 30 {
			t.Errorf("%d ways of which %d tables go", times, n)
		}
	}
}

// P20.1 and P20.3: behind the way down the way is pruned as it was, but what was in free frames.
func TestDownAndPruned(t *testing.T) {
	eachTree(100, func(old tree, p api.Pool) {
		eachWay(func(addr uint64) {
			m, q, s, e := split.Down(old.mem(), p, old.top, old.level, addr, 0)
			if e != api.OK || s.Pte != (api.Pte{}) {
				return
			}
			n, back := split.Prune(m, q, old.top, old.level, addr)
			want := old.prune(p, addr)
			for i := range uint64(p.Many) {
				if p.Free>>i&1 == 1 && q.Free>>i&1 == 0 {
					want.m.wipe(p.Base + i)
				}
			}
			hold(t, fmt.Sprintf("Prune behind Down(%#x)", addr), n, back, api.Spot{}, api.OK, want)
		})
	})
}

// led is where an address is led: to which address, by which bits of the entry, at which level.
type led struct {
	to, bits uint64
	level    int
}

// leads tells where an address is led.
func (t tree) leads(addr uint64) led {
	s, place := t.reached(addr, 0)
	e := t.words[place]
	if !leaf(e) || bad(e, s.Level) {
		return led{}
	}
	return led{e>>10*4096 + addr%levels[s.Level], e % 1024, s.Level}
}

// around tells addresses of each index in the page of that level at addr, of each index in what is the page of the next level, and beside the page.
func around(addr uint64, level int) (l []uint64) {
	for ; level > 0; level-- {
		begin, size := addr-addr%levels[level], levels[level-1]
		for i := range uint64(512) {
			l = append(l, begin+i*size, begin+i*size+i*8, begin+(i+1)*size-1)
		}
		l = append(l, begin-1, begin-size, begin+levels[level], begin+levels[level]+size)
	}
	return l
}

// P20.4: a split changes no address's page but its level.
func TestSplitLeadsAsBefore(t *testing.T) {
	entries := words{
		at(1, 3): word(5<<18, v+r+w+x+u+g+a+d+low), at(1, 2): word(1<<18, v+x), at(1, 4): word(7, v),
		at(7, 9): word(1024, v+r+d+soft), at(7, 8): word(0, v+x+a), at(7, 10): word(6, v), at(6, 1): word(8, v+r+w),
	}
	old := tree{machine{9, entries}, 1, 2}
	for _, c := range []struct {
		addr   uint64
		levels []int
	}{
		{address(3, 100, 200, 300), []int{0, 1, 2}},
		{address(3, 0, 0, 0), []int{0, 1, 2}},
		{address(3, 511, 511, 4095), []int{0, 1, 2}},
		{address(4, 9, 77, 0), []int{0, 1, 1}},
		{address(4, 9, 511, 0), []int{0, 1, 1}},
		{address(4, 10, 1, 0), []int{0, 0, 0}},
	} {
		for to, level := range c.levels {
			m, _, _, e := split.To(old.mem(), six(0b001111), 1, 2, c.addr, to)
			after := tree{told(m), 1, 2}
			if e != api.OK || after.leads(c.addr).level != level {
				t.Fatalf("To(%#x, %d): %d, and %+v", c.addr, to, e, after.leads(c.addr))
			}
			for _, addr := range slices.Concat(around(c.addr, 2), around(address(4, 9, 0, 0), 2), around(address(2, 0, 0, 0), 1)) {
				was, is := old.leads(addr), after.leads(addr)
				if is.level > was.level || is.level < min(to, was.level) {
					t.Fatalf("To(%#x, %d): %#x is of the level %d, not %d", c.addr, to, addr, is.level, was.level)
				}
				if was.level = is.level; was != is {
					t.Fatalf("To(%#x, %d): %#x is led %+v, not %+v", c.addr, to, addr, is, was)
				}
			}
		}
	}
}

// P20.4: the pages that are listed behind a split are those from ahead of it, the one that was split taken apart.
func TestSplitPages(t *testing.T) {
	old := tree{machine{9, words{at(1, 3): word(5<<18, v+r+w+u+a+d), at(1, 300): word(7, v), at(7, 511): word(1024, v+x), at(1, 2): word(0, v+r)}}, 1, 2}
	before := table.Pages(old.mem(), 1, 2, 0)
	for _, c := range []struct {
		addr   uint64
		splits []int
	}{{address(3, 20, 30, 0), []int{2, 1}}, {address(300, 511, 256, 0), []int{1}}, {address(2, 511, 0, 0), []int{2, 1}}} {
		m, p := old.mem(), six(0b001111)
		list := slices.Clone(before)
		for _, level := range c.splits {
			s := table.Reach(m, 1, 2, c.addr, 0)
			if s.Level != level {
				t.Fatalf("%#x is at the level %d, not %d", c.addr, s.Level, level)
			}
			list = apart(list, c.addr, level)
			var e api.Errno
			m, p, e = split.Leaf(m, p, s, c.addr)
			if l := table.Pages(m, 1, 2, 0); e != api.OK || !slices.Equal(l, list) {
				t.Errorf("Leaf(%#x) of the level %d is %d; %d pages are listed, not %d", c.addr, level, e, len(l), len(list))
			}
		}
	}
}

// apart tells the pages of which the one of that level that covers the address is taken apart.
func apart(l []api.Page, addr uint64, level int) (list []api.Page) {
	for _, page := range l {
		if page.Level != level || addr < page.Va || addr-page.Va >= levels[level] {
			list = append(list, page)
			continue
		}
		for i := range uint64(512) {
			part := page
			part.Level--
			part.Va += i * levels[part.Level]
			part.Pa += i * levels[part.Level]
			list = append(list, part)
		}
	}
	return list
}

// TestExample is the chapter's example: a leaf of 2 MiB, split, is 512 leaves of 4 KiB.
func TestExample(t *testing.T) {
	rx := api.Perm{R: true, X: true}
	m := machine{9, words{at(1, 4): word(1536, v+r+x)}}.mem()
	s := table.Reach(m, 1, 1, 0x800000, 0)
	m, p, e := split.Leaf(m, six(0b1), s, 0x800000)
	l := table.Pages(m, 1, 1, 0)
	if e != api.OK || p != six(0) || len(l) != 512 {
		t.Fatalf("Leaf is %d, %+v, of %d pages", e, p, len(l))
	}
	for i, page := range l {
		if want := (api.Page{Va: 0x800000 + uint64(i)*4096, Pa: 0x600000 + uint64(i)*4096, Perm: rx}); page != want {
			t.Fatalf("the page %d is %+v, not %+v", i, page, want)
		}
	}
}

// whole tells all cells of a memory and those in the room behind them.
func whole(m api.Mem) []api.Cell {
	return slices.Clone(m.Cells[:cap(m.Cells)])
}

// spoil writes into all cells of a memory, and into the room behind them.
func spoil(m api.Mem) {
	l := m.Cells[:cap(m.Cells)]
	for i := range l {
		l[i] = api.Cell{At: 66, Val: 99}
	}
}

// shared tells the memory in which all is asked here: a tree of the top 1 and the level 2.
func shared() machine {
	return machine{9, words{
		at(1, 0): word(2, v), at(2, 0): word(3, v), at(2, 9): word(512, v+r), at(1, 3): word(1<<18, v+x), at(1, 511): word(4, v), at(4, 0): word(5, v), at(8, 3): 7,
		at(6, 1): 5, at(7, 511): 6, at(1, 9): word(1<<18+1, v+x),
	}}
}

// changes are calls that answer another memory than they were handed.
func changes() map[string]func(m api.Mem) api.Mem {
	return map[string]func(m api.Mem) api.Mem{
		"two tables are taken": func(m api.Mem) api.Mem {
			n, _, _, _ := split.Down(m, six(0b110000), 1, 2, address(7, 7, 7, 0), 0)
			return n
		},
		"a table is taken": func(m api.Mem) api.Mem {
			n, _, _, _ := split.Down(m, six(0b100000), 1, 2, address(0, 5, 7, 0), 0)
			return n
		},
		"a leaf is split": func(m api.Mem) api.Mem {
			n, _, _ := split.Leaf(m, six(0b110000), spot(1, 2, word(1<<18, v+x)), address(3, 0, 0, 0))
			return n
		},
		"a leaf is split once": func(m api.Mem) api.Mem {
			n, _, _, _ := split.To(m, six(0b100000), 1, 2, address(0, 9, 0, 0), 0)
			return n
		},
		"a leaf is split twice": func(m api.Mem) api.Mem {
			n, _, _, _ := split.To(m, six(0b110000), 1, 2, address(3, 9, 0, 0), 0)
			return n
		},
		"a way is pruned": func(m api.Mem) api.Mem {
			n, _ := split.Prune(m, six(0b110000), 1, 2, 0)
			return n
		},
		"another one is": func(m api.Mem) api.Mem {
			n, _ := split.Prune(m, six(0b110000), 1, 2, all)
			n, _ = split.Prune(n, six(0b110000), 1, 2, address(511, 0, 0, 0))
			return n
		},
	}
}

// stays are calls that leave the memory as it was.
func stays() map[string]func(m api.Mem) api.Mem {
	return map[string]func(m api.Mem) api.Mem{
		"the way is there": func(m api.Mem) api.Mem {
			n, _, _, _ := split.Down(m, six(0b110000), 1, 2, 0, 0)
			return n
		},
		"a leaf is on the way": func(m api.Mem) api.Mem {
			n, _, _, _ := split.Down(m, six(0b110000), 1, 2, address(3, 0, 0, 0), 0)
			return n
		},
		"frames lack for the way": func(m api.Mem) api.Mem {
			n, _, _, _ := split.Down(m, six(0b100000), 1, 2, address(7, 7, 7, 0), 0)
			return n
		},
		"frames lack for a leaf": func(m api.Mem) api.Mem {
			n, _, _ := split.Leaf(m, six(0), spot(1, 2, word(1<<18, v+x)), address(3, 0, 0, 0))
			return n
		},
		"frames lack for the second split": func(m api.Mem) api.Mem {
			n, _, _, _ := split.To(m, six(0b100000), 1, 2, address(3, 0, 0, 0), 0)
			return n
		},
		"no leaf is above": func(m api.Mem) api.Mem {
			n, _, _, _ := split.To(m, six(0b100000), 1, 2, 0, 0)
			return n
		},
		"no table is empty": func(m api.Mem) api.Mem {
			n, _ := split.Prune(m, six(0b110000), 1, 2, address(0, 9, 0, 0))
			return n
		},
	}
}

// P20.5: what is handed in stays, the room behind a list included, and what is answered shares nothing with it where it isn't as it was.
func TestHandedInStays(t *testing.T) {
	for name, f := range changes() {
		m := shared().mem()
		before := whole(m)
		n := f(m)
		if !slices.Equal(whole(m), before) {
			t.Errorf("%s: the memory was changed", name)
		}
		if same(n, m) {
			t.Errorf("%s: the memory is as it was", name)
		}
		spoil(n)
		if !slices.Equal(whole(m), before) {
			t.Errorf("%s: the answer shares with what was handed in", name)
		}
	}
	for name, f := range stays() {
		m := shared().mem()
		before := whole(m)
		if n := f(m); !slices.Equal(whole(m), before) || !same(n, shared().mem()) {
			t.Errorf("%s: the memory was changed", name)
		}
	}
}

// P20.5: nothing is kept from call to call, and one answer isn't another's.
func TestNothingIsKept(t *testing.T) {
	for name, f := range changes() {
		m := shared().mem()
		first, told := f(m), f(shared().mem())
		spoil(first)
		again := f(m)
		if !same(again, told) {
			t.Errorf("%s: again it is %s, not %s", name, brief(again), brief(told))
		}
		spoil(m)
		if !same(again, told) {
			t.Errorf("%s: the answer shares with what was handed in", name)
		}
		if same(first, told) {
			t.Errorf("%s: the answer wasn't spoilt", name)
		}
	}
}

// P20.5: nil and empty lists are one.
func TestNilAndEmpty(t *testing.T) {
	for _, m := range []api.Mem{{Size: 4 * 4096}, {Size: 4 * 4096, Cells: []api.Cell{}}} {
		p := api.Pool{Base: 1, Many: 3, Free: 7}
		old := tree{machine{4, nil}, 0, 2}
		n, q, s, e := split.Down(m, p, 0, 2, 0x5000, 0)
		hold(t, "Down", n, q, s, e, old.down(p, 0x5000, 0))
		n, q = split.Prune(n, q, 0, 2, 0x5000)
		hold(t, "Prune", n, q, api.Spot{}, api.OK, answer{m: old.machine, p: p})
		n, q = split.Prune(m, p, 0, 2, 0x5000)
		hold(t, "Prune of nothing", n, q, api.Spot{}, api.OK, answer{m: old.machine, p: p})
		n, q, s, e = split.To(m, p, 0, 2, 0x5000, 0)
		hold(t, "To", n, q, s, e, answer{m: old.machine, p: p, s: spot(0, 2, 0)})
	}
}

// odd are memories that aren't right, and such as have no right trees: links beyond the memory, to the table itself and to one another, links that are bad, and entries that are neither leaves nor links nor 0.
func odd() []api.Mem {
	l := []api.Mem{
		{}, {Size: 1}, {Size: 4095}, {Size: all}, {Size: 1 << 41}, {Size: 4096, Cells: []api.Cell{{}, {}}},
		{Size: 8192, Cells: []api.Cell{{At: 9, Val: v}, {At: 3, Val: v + r}, {At: 3}, {At: all, Val: all}, {At: 512, Val: word(1, v)}}},
		{Cells: []api.Cell{{At: 0, Val: v + r}, {At: 5, Val: word(0, v)}, {At: 1 << 61, Val: all}}},
	}
	for _, e := range []uint64{word(0, v), word(1, v), word(7, v), word(1<<44-1, v), word(1<<44-1, v+r), all, v + r, v + a, v + w, w, wide, g} {
		l = append(l, machine{2, words{at(0, 0): e, at(0, 511): e, at(0, 256): e, at(1, 3): word(0, v)}}.mem())
	}
	return l
}

// oddPools are such as aren't right, and such as have frames beyond the memory, or one that is the top.
func oddPools() []api.Pool {
	return []api.Pool{
		{}, {Many: 2, Free: 3}, {Base: 1 << 28, Many: 64, Free: all}, {Base: all, Many: 65, Free: all}, {Base: 1 << 52, Many: math.MaxInt, Free: 1 << 63}, {Many: math.MinInt, Free: all}, {Base: 1, Many: -1, Free: 5},
	}
}

// depths are levels, and numbers that are none.
var depths = []int{0, 1, 2, -1, 3, 64, -1 << 60, math.MinInt, math.MaxInt}

// Of what isn't right nothing is promised, but no call panics, and all end.
func TestNoPanic(t *testing.T) {
	for _, m := range odd() {
		for _, p := range oddPools() {
			for _, top := range []uint64{0, 1, 7, 1<<44 - 1, all} {
				for _, level := range depths {
					for _, addr := range []uint64{0, 1 << 38, 1 << 63, all, 0x123456789abcdef0} {
						split.Prune(m, p, top, level, addr)
						split.Down(m, p, top, level, addr, 0)
						split.Down(m, p, top, level, addr, -1)
					}
				}
			}
		}
	}
}

// Of wants that are none nothing is promised, and neither of spots that nobody told, but no call panics, and all end.
func TestNoPanicOfLevels(t *testing.T) {
	for _, m := range odd() {
		for _, p := range oddPools() {
			for _, level := range depths {
				for _, want := range depths {
					split.Down(m, p, 0, level, 0, want)
				}
				if p.Free < 8 {
					for _, e := range []api.Pte{{}, {V: true, R: true}, {V: true, X: true, Ppn: all}, {Rsw: 4}} {
						split.Leaf(m, p, api.Spot{Level: level, Pte: e}, all)
					}
				}
			}
		}
	}
}

// Nor does To, whatever it splits.
func TestNoPanicOfSplits(t *testing.T) {
	for _, m := range odd() {
		for i, p := range oddPools() {
			for j, level := range depths {
				split.To(m, p, 0, level, all, depths[(i+j)%len(depths)])
				split.To(m, p, 0, level, 0, 0)
				split.To(m, p, 0, level, 0, math.MinInt)
			}
		}
	}
}
