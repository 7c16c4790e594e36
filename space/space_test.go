package space_test

import (
	"fmt"
	"math"
	"slices"
	"testing"

	"atlas/api"
	"atlas/space"
)

const all = ^uint64(0)

// The bits of an entry's word, told as numbers.
const (
	v = 1
	r = 2
	w = 4
	x = 8
	u = 0x10
	g = 0x20
	a = 0x40
	d = 0x80
	// soft is one of Rsw.
	soft = 1 << 9
)

// top is the first address of the index 511 at the level 2.
const top = 0xffffffffc0000000

// levels are the bytes of a page, spans its frames.
var (
	levels = []uint64{1 << 12, 1 << 21, 1 << 30}
	spans  = []uint64{1, 1 << 9, 1 << 18}
)

// at tells where the entry of that index is in the table of that frame.
func at(frame, index uint64) uint64 {
	return frame*4096 + index*8
}

// word tells the word of an entry of that frame.
func word(frame, bits uint64) uint64 {
	return frame*1024 + bits
}

// canonical tells whether all bits from 38 on are alike.
func canonical(addr uint64) bool {
	return addr>>38 == 0 || addr>>38 == 1<<26-1
}

// words are a memory's words that aren't 0, by their addresses.
type words map[uint64]uint64

// kernel is one that is told: its memory by its words.
type kernel struct {
	conf   api.Conf
	words  words
	sets   []api.Set
	satp   api.Satp
	how    api.Hart
	pool   api.Pool
	asids  api.Asids
	spaces []api.Space
	now    int
	shared uint64
	fences []api.Fence
}

// row tells the list with room behind it.
func row[T any](l []T, room T) []T {
	return append(slices.Clone(l), room, room)[:len(l)]
}

// cells tells the words as a memory's cells.
func (l words) cells() []api.Cell {
	row := []api.Cell{}
	for at, val := range l {
		if val != 0 {
			row = append(row, api.Cell{At: at / 8, Val: val})
		}
	}
	slices.SortFunc(row, func(a, b api.Cell) int { return int(a.At) - int(b.At) })
	return row
}

// made tells the kernel, of lists that all have room behind them.
func (k kernel) made() api.Kernel {
	h := k.how
	h.Satp = k.satp
	h.Tlb.Sets = row(k.sets, api.Set{Tree: 5})
	return api.Kernel{
		Conf:   k.conf,
		Mem:    api.Mem{Size: uint64(k.conf.Data+k.conf.Pool) * 4096, Cells: row(k.words.cells(), api.Cell{At: 901, Val: 0xee})},
		Hart:   h,
		Pool:   k.pool,
		Asids:  k.asids,
		Spaces: row(k.spaces, api.Space{Root: 77, Asid: 7, Live: true}),
		Now:    k.now,
		Shared: k.shared,
		Fences: row(k.fences, api.Fence{HasAddr: true, Addr: 88}),
	}
}

// but tells the kernel in memory of its own, with other words.
func (k kernel) but(other words) kernel {
	n := words{}
	for at, val := range k.words {
		n[at] = val
	}
	for at, val := range other {
		n[at] = val
	}
	k.words, k.sets, k.spaces, k.fences = n, slices.Clone(k.sets), slices.Clone(k.spaces), slices.Clone(k.fences)
	return k
}

// wipe lets the frame's words go.
func (k kernel) wipe(frame uint64) {
	for i := range uint64(512) {
		delete(k.words, at(frame, i))
	}
}

// begun tells a new kernel, as the chapter has it.
func begun(c api.Conf) kernel {
	free, numbers := uint64(0), uint64(0)
	for i := 1; i < c.Pool; i++ {
		free += 1 << i
	}
	for i := range c.Asids {
		numbers += 1 << i
	}
	return kernel{
		conf:   c,
		words:  words{},
		sets:   make([]api.Set, c.Sets),
		how:    api.Hart{Victim: -1},
		pool:   api.Pool{Base: uint64(c.Data), Many: c.Pool, Free: free},
		asids:  api.Asids{Many: c.Asids, Free: numbers},
		now:    -1,
		shared: uint64(c.Data),
	}
}

// least tells the least of the bits that is set, and 64 if none is.
func least(bits uint64) int {
	for i := range 64 {
		if bits>>i&1 == 1 {
			return i
		}
	}
	return 64
}

// names tells whether a fence names an entry.
func names(f api.Fence, e api.Entry) bool {
	if !e.Valid || f.HasAsid && (e.Global || e.Asid != f.Asid) {
		return false
	}
	return !f.HasAddr || canonical(f.Addr) && f.Addr%(1<<39)/levels[e.Level] == e.Vpn/spans[e.Level]
}

// fenced tells the kernel when the fences are done.
func (k kernel) fenced(l ...api.Fence) kernel {
	k = k.but(nil)
	for _, f := range l {
		k.fences = append(k.fences, f)
		for i := range k.sets {
			for j, e := range k.sets[i].Ways {
				if names(f, e) {
					k.sets[i].Ways[j] = api.Entry{}
				}
			}
		}
	}
	return k
}

// created tells the kernel with a space more, and its id.
func (k kernel) created() (kernel, int, api.Errno) {
	number, frame := least(k.asids.Free), least(k.pool.Free)
	switch {
	case len(k.spaces) == 32:
		return k, 0, api.ErrArg
	case number == 64:
		return k, 0, api.ErrAsids
	case frame == 64:
		return k, 0, api.ErrFrames
	}
	root := k.pool.Base + uint64(frame)
	n := k.but(nil)
	n.wipe(root)
	n.words[at(root, 511)] = word(k.shared, v+g)
	n.pool.Free -= 1 << frame
	n.asids.Free -= 1 << number
	n.asids.Owned |= 1 << number
	n.spaces = append(n.spaces, api.Space{Root: root, Asid: uint64(number) + 1, Live: true})
	if k.asids.Owned>>number&1 == 1 {
		n = n.fenced(api.Fence{HasAsid: true, Asid: uint64(number) + 1})
	}
	return n, len(k.spaces), api.OK
}

// lives tells whether a space of that id lives.
func (k kernel) lives(id int) bool {
	return id >= 0 && id < len(k.spaces) && k.spaces[id].Live
}

// drop lets the table of that level and all that are under it go, by as many of its indexes.
func (k *kernel) drop(frame uint64, level int, indexes uint64) {
	for i := range indexes {
		if e := k.words[at(frame, i)]; level > 0 && e&v != 0 && e&(r+x) == 0 {
			k.drop(e/1024, level-1, 512)
		}
	}
	k.wipe(frame)
	k.pool.Free += 1 << (frame - k.pool.Base)
}

// destroyed tells the kernel without that space.
func (k kernel) destroyed(id int) (kernel, api.Errno) {
	switch {
	case !k.lives(id):
		return k, api.ErrSpace
	case id == k.now:
		return k, api.ErrBusy
	}
	n, s := k.but(nil), k.spaces[id]
	// at the index 511 is what isn't the space's
	n.drop(s.Root, 2, 511)
	n.asids.Free += 1 << (s.Asid - 1)
	n.spaces[id] = api.Space{}
	return n, api.OK
}

// switched tells the kernel in which that space is the current one.
func (k kernel) switched(id int) (kernel, api.Errno) {
	n := k.but(nil)
	switch {
	case id == -1:
		n.now, n.satp = -1, api.Satp{}
	case k.lives(id):
		n.now, n.satp = id, api.Satp{Mode: 8, Asid: k.spaces[id].Asid, Ppn: k.spaces[id].Root}
	default:
		return k, api.ErrSpace
	}
	return n, api.OK
}

// where tells the top of the tree of the address.
func (k kernel) where(id int, addr uint64, level int) (uint64, int, api.Errno) {
	switch {
	case level < 0 || level > 2:
		return 0, 0, api.ErrArg
	case id != -1 && !k.lives(id):
		return 0, 0, api.ErrSpace
	case !canonical(addr) || addr%levels[level] != 0:
		return 0, 0, api.ErrAlign
	case id == -1 && (addr < top || level == 2), id != -1 && addr >= top:
		return 0, 0, api.ErrRange
	case id == -1:
		return k.shared, 1, api.OK
	}
	return k.spaces[id].Root, 2, api.OK
}

// same tells whether two kernels are the same; nil and empty lists are one.
func same(k, l api.Kernel) bool {
	return k.Conf == l.Conf && k.Mem.Size == l.Mem.Size && slices.Equal(k.Mem.Cells, l.Mem.Cells) && k.Pool == l.Pool && k.Asids == l.Asids &&
		slices.Equal(k.Spaces, l.Spaces) && k.Now == l.Now && k.Shared == l.Shared && slices.Equal(k.Fences, l.Fences) && like(k.Hart, l.Hart)
}

// like tells whether two harts are the same.
func like(h, i api.Hart) bool {
	return slices.Equal(h.Tlb.Sets, i.Tlb.Sets) && h.Satp == i.Satp && h.Priv == i.Priv && h.Sum == i.Sum && h.Mxr == i.Mxr && h.Victim == i.Victim
}

// hold holds what a call answered against what is told.
func hold(t *testing.T, name string, k, want api.Kernel, e, wrong api.Errno) {
	t.Helper()
	if e != wrong || !same(k, want) {
		t.Fatalf("%s is\n%+v\n%d, not\n%+v\n%d", name, k, e, want, wrong)
	}
}

// creates holds Create against what is told, and answers that.
func creates(t *testing.T, old kernel) kernel {
	t.Helper()
	want, number, wrong := old.created()
	k, id, e := space.Create(old.made())
	hold(t, "Create", k, want.made(), e, wrong)
	if id != number {
		t.Fatalf("Create: the id is %d, not %d", id, number)
	}
	return want
}

// destroys holds Destroy against what is told, and answers that.
func destroys(t *testing.T, old kernel, id int) kernel {
	t.Helper()
	want, wrong := old.destroyed(id)
	k, e := space.Destroy(old.made(), id)
	hold(t, fmt.Sprintf("Destroy(%d)", id), k, want.made(), e, wrong)
	return want
}

// switches holds Switch against what is told, and answers that.
func switches(t *testing.T, old kernel, id int) kernel {
	t.Helper()
	want, wrong := old.switched(id)
	k, e := space.Switch(old.made(), id)
	hold(t, fmt.Sprintf("Switch(%d)", id), k, want.made(), e, wrong)
	return want
}

// fences holds Fence against what is told, and answers that.
func fences(t *testing.T, old kernel, l ...api.Fence) kernel {
	t.Helper()
	want := old.fenced(l...)
	hold(t, fmt.Sprintf("Fence(%+v)", l), space.Fence(old.made(), row(l, api.Fence{})), want.made(), 0, 0)
	return want
}

// leads holds Where against what is told.
func leads(t *testing.T, old kernel, id int, addr uint64, level int, frame uint64, under int, wrong api.Errno) {
	t.Helper()
	if f, l, e := space.Where(old.made(), id, addr, level); f != frame || l != under || e != wrong {
		t.Fatalf("Where(%d, %#x, %d) is %d, %d, %d, not %d, %d, %d", id, addr, level, f, l, e, frame, under, wrong)
	}
}

// bounds are numbers around the bounds of what a configuration has, and whether they may be.
var bounds = map[string]map[int]bool{
	"data":  {math.MinInt: false, -1: false, 0: false, 1: true, 2: true, 1<<19 - 1: true, 1 << 19: true, 1<<19 + 1: false, 1 << 40: false, math.MaxInt: false},
	"pool":  {math.MinInt: false, -1: false, 0: false, 1: true, 2: true, 63: true, 64: true, 65: false, 1 << 32: false, math.MaxInt: false},
	"asids": {math.MinInt: false, -1: false, 0: false, 1: true, 2: true, 15: true, 16: true, 17: false, 1 << 32: false, math.MaxInt: false},
	"sets":  {math.MinInt: false, -1: false, 0: true, 1: true, 3: true, 15: true, 16: true, 17: false, 1 << 32: false, math.MaxInt: false},
}

// P21.1: configurations at each bound and beyond it, each with each.
func TestMay(t *testing.T) {
	right := 0
	for data, ok1 := range bounds["data"] {
		for pool, ok2 := range bounds["pool"] {
			for asids, ok3 := range bounds["asids"] {
				for sets, ok4 := range bounds["sets"] {
					c, may := api.Conf{Data: data, Pool: pool, Asids: asids, Sets: sets}, ok1 && ok2 && ok3 && ok4
					if space.May(c) != may {
						t.Fatalf("May(%+v) is not %v", c, may)
					}
					k, e := space.New(c)
					if may {
						right++
						hold(t, fmt.Sprintf("New(%+v)", c), k, begun(c).made(), e, api.OK)
					} else {
						hold(t, fmt.Sprintf("New(%+v)", c), k, api.Kernel{}, e, api.ErrArg)
					}
				}
			}
		}
	}
	if right != 4*4*4*5 {
		t.Errorf("%d may be", right)
	}
}

// P21.1: a new kernel's every field, written out.
func TestNew(t *testing.T) {
	for _, c := range []struct {
		conf    api.Conf
		size    uint64
		free    uint64
		numbers uint64
	}{
		{api.Conf{Data: 1, Pool: 1, Asids: 1}, 8192, 0, 1},
		{api.Conf{Data: 4, Pool: 8, Asids: 2, Sets: 1}, 12 * 4096, 0xfe, 3},
		{api.Conf{Data: 5, Pool: 2, Asids: 5, Sets: 3}, 7 * 4096, 2, 31},
		{api.Conf{Data: 1 << 19, Pool: 64, Asids: 16, Sets: 16}, 1<<31 + 1<<18, all - 1, 0xffff},
	} {
		k, e := space.New(c.conf)
		want := api.Kernel{
			Conf:   c.conf,
			Mem:    api.Mem{Size: c.size},
			Hart:   api.Hart{Tlb: api.Tlb{Sets: make([]api.Set, c.conf.Sets)}, Victim: -1},
			Pool:   api.Pool{Base: uint64(c.conf.Data), Many: c.conf.Pool, Free: c.free},
			Asids:  api.Asids{Many: c.conf.Asids, Free: c.numbers},
			Now:    -1,
			Shared: uint64(c.conf.Data),
		}
		hold(t, fmt.Sprintf("New(%+v)", c.conf), k, want, e, api.OK)
	}
}

// entry tells an entry of a buffer, of an address.
func entry(asid uint64, global bool, level int, addr uint64) api.Entry {
	return api.Entry{Valid: true, Asid: asid, Global: global, Level: level, Vpn: addr % (1 << 39) / levels[level] * spans[level], Ppn: 4 * spans[level], Perm: api.Perm{R: true, U: !global}}
}

// full tells a set of these entries.
func full(l ...api.Entry) api.Set {
	s := api.Set{Tree: 3}
	copy(s.Ways[:], l)
	return s
}

// midst tells a kernel in the midst of things: 4 frames of data, and 6 of tables from 4 on; so many spaces were created, none of which lives any more.
func midst(free, numbers, owned uint64, ever int) kernel {
	k := begun(api.Conf{Data: 4, Pool: 6, Asids: 4, Sets: 1})
	k.words = words{at(0, 3): 8, at(3, 511): all}
	k.sets = []api.Set{full(entry(1, false, 0, 0x5000), entry(2, false, 1, 0x200000), entry(3, true, 0, top), entry(4, false, 2, 0))}
	k.how = api.Hart{Priv: api.Super, Sum: true, Mxr: true, Victim: 2}
	k.pool.Free, k.asids.Free, k.asids.Owned = free, numbers, owned
	k.spaces = make([]api.Space, ever)
	k.fences = []api.Fence{{}, {HasAddr: true, Addr: 0x5000}}
	return k
}

// news are cases of Create in the midst of things: the frame and the number of the space, and whether it is fenced.
var news = []struct {
	free, numbers, owned uint64
	ever                 int
	root, number         uint64
	fence                bool
	err                  api.Errno
}{
	// the first of both
	{0b111110, 0b1111, 0, 0, 5, 1, false, api.OK},
	{0b111110, 0b1111, 0b0001, 1, 5, 1, true, api.OK},
	// neither is the first one
	{0b111100, 0b1110, 0b0001, 1, 6, 2, false, api.OK},
	{0b110000, 0b1100, 0b1011, 2, 8, 3, false, api.OK},
	{0b101000, 0b1110, 0b0011, 2, 7, 2, true, api.OK},
	{0b101000, 0b1100, 0b1111, 9, 7, 3, true, api.OK},
	// the last of both
	{0b100000, 0b1000, 0b0111, 3, 9, 4, false, api.OK},
	{0b100000, 0b1000, 0b1111, 4, 9, 4, true, api.OK},
	// some that is free was owned, but another one is the least
	{0b000010, 0b1111, 0b1110, 5, 5, 1, false, api.OK},
	{0b000100, 0b1010, 0b1101, 6, 6, 2, false, api.OK},
	// as many spaces as may be
	{0b000010, 0b0010, 0b0001, 31, 5, 2, false, api.OK},
	{0b000010, 0b0010, 0b1111, 31, 5, 2, true, api.OK},
	{0b111110, 0b1111, 0b1111, 32, 0, 0, false, api.ErrArg},
	{0b111110, 0b1111, 0, 32, 0, 0, false, api.ErrArg},
	// numbers lack, and frames
	{0b111110, 0, 0b1111, 4, 0, 0, false, api.ErrAsids},
	{0b100000, 0, 0b1111, 0, 0, 0, false, api.ErrAsids},
	{0, 0b1111, 0, 0, 0, 0, false, api.ErrFrames},
	{0, 0b1110, 0b1111, 31, 0, 0, false, api.ErrFrames},
	// two of these apply at once, or all
	{0, 0, 0b1111, 4, 0, 0, false, api.ErrAsids},
	{0b111110, 0, 0b1111, 32, 0, 0, false, api.ErrArg},
	{0, 0b1111, 0b1111, 32, 0, 0, false, api.ErrArg},
	{0, 0, 0b1111, 32, 0, 0, false, api.ErrArg},
}

// P21.2: the space, its number and its root, or why there is none, written out.
func TestCreate(t *testing.T) {
	for i, c := range news {
		old := midst(c.free, c.numbers, c.owned, c.ever)
		k, id, e := space.Create(old.made())
		if e != c.err {
			t.Fatalf("%d: Create is %d, not %d", i, e, c.err)
		}
		if e != api.OK {
			if id != 0 || !same(k, old.made()) {
				t.Errorf("%d: with an error there is %d, and %+v", i, id, k)
			}
			continue
		}
		want := old.but(words{at(c.root, 511): word(4, v+g)})
		want.pool.Free -= 1 << (c.root - 4)
		want.asids.Free -= 1 << (c.number - 1)
		want.asids.Owned |= 1 << (c.number - 1)
		want.spaces = append(want.spaces, api.Space{Root: c.root, Asid: c.number, Live: true})
		if c.fence {
			want.fences = append(want.fences, api.Fence{HasAsid: true, Asid: c.number})
			// the entry of the number 3 is of all spaces
			if c.number != 3 {
				want.sets[0].Ways[c.number-1] = api.Entry{}
			}
		}
		if id != c.ever || !same(k, want.made()) {
			t.Fatalf("%d: Create is %d and\n%+v, not\n%+v", i, id, k, want.made())
		}
	}
}

// P21.2: the same, told, whatever stands in the frames; the shared table is any of the pool's.
func TestCreateOfAll(t *testing.T) {
	junk := words{}
	for f := uint64(0); f < 10; f++ {
		junk[at(f, 0)], junk[at(f, 510)], junk[at(f, 511)], junk[at(f, 7)] = word(f, v), all, word(1<<18, v+r), f
	}
	for free := range uint64(64) {
		for numbers := range uint64(16) {
			for _, owned := range []uint64{0, 0b1111, 0b0101, 0b0110} {
				old := midst(free, numbers, owned|0b1111&^numbers, int(free%33)).but(junk)
				old.shared = 4 + free%6
				creates(t, old)
			}
		}
	}
}

// P21.2: whoever lives stays, and which one is current.
func TestCreateBesideOthers(t *testing.T) {
	k := begun(api.Conf{Data: 4, Pool: 64, Asids: 16, Sets: 2})
	for i := range 16 {
		k = creates(t, k)
		if want := (api.Space{Root: uint64(5 + i), Asid: uint64(i + 1), Live: true}); k.spaces[i] != want {
			t.Fatalf("the space %d is %+v, not %+v", i, k.spaces[i], want)
		}
		k = switches(t, k, i/2)
	}
	if _, _, e := k.created(); e != api.ErrAsids || k.now != 7 {
		t.Fatalf("the 17th is %d", e)
	}
	creates(t, k)
	few := creates(t, creates(t, begun(api.Conf{Data: 1, Pool: 3, Asids: 16})))
	if _, _, e := few.created(); e != api.ErrFrames {
		t.Fatalf("the third root is %d", e)
	}
	creates(t, few)
	creates(t, begun(api.Conf{Data: 1, Pool: 1, Asids: 1}))
	// there were 32 ever, none of which lives
	for len(few.spaces) < 32 {
		few = creates(t, few.asEmpty(t))
	}
	few = few.asEmpty(t)
	if _, _, e := few.created(); e != api.ErrArg {
		t.Fatalf("the 33rd is %d", e)
	}
	creates(t, few)
}

// asEmpty tells the kernel when all that live are destroyed.
func (k kernel) asEmpty(t *testing.T) kernel {
	t.Helper()
	k = switches(t, k, -1)
	for id := range k.spaces {
		if k.lives(id) {
			k = destroys(t, k, id)
		}
	}
	return k
}

// grown tells a kernel of trees of all levels: 4 frames of data, and 20 of tables. The spaces 0 and 2 live, of the roots 5 and 12; the shared table, of the frame 4, has tables, too; the space 1 was destroyed.
func grown() kernel {
	k := begun(api.Conf{Data: 4, Pool: 20, Asids: 4, Sets: 1})
	k.words = words{
		at(0, 0): 7, at(3, 511): all,
		// the shared table: two tables, and a page
		at(4, 0): word(15, v), at(4, 511): word(16, v+g), at(4, 3): word(512, v+r+g), at(15, 9): word(1, v+r+w+g+a+d), at(16, 511): word(2, v+x+g),
		// the space 0: tables at the first and the last of its indexes, of both levels, and pages
		at(5, 0): word(6, v), at(6, 0): word(7, v), at(6, 511): word(8, v+soft), at(7, 0): word(3, v+r+u), at(7, 511): word(3, v+x), at(8, 5): word(0, v+r+w),
		at(5, 510): word(9, v+soft), at(9, 511): word(10, v), at(9, 0): word(1024, v+r), at(10, 511): word(1, v+r), at(5, 256): word(1<<18, v+r+x), at(5, 511): word(4, v+g),
		// the space 2: the lowest table is empty, and so is one of the level 1
		at(12, 7): word(21, v), at(21, 8): word(18, v), at(12, 8): word(13, v), at(12, 511): word(4, v+g),
	}
	k.sets = []api.Set{full(entry(1, false, 0, 0x1000), entry(3, false, 0, 0x2000), entry(1, true, 0, top))}
	k.how = api.Hart{Priv: api.Super, Mxr: true, Victim: 3}
	k.pool.Free = 0
	for _, f := range []uint64{11, 14, 17, 19, 20, 22, 23} {
		k.pool.Free |= 1 << (f - 4)
		k.words[at(f, 3)] = f
	}
	k.asids.Free, k.asids.Owned = 0b1010, 0b0111
	k.spaces = []api.Space{{Root: 5, Asid: 1, Live: true}, {}, {Root: 12, Asid: 3, Live: true}}
	k.fences = []api.Fence{{HasAsid: true, Asid: 2}}
	return k
}

// P21.2: the root and the tables of the levels 1 and 0 are given back, the shared table and those under it aren't, written out.
func TestDestroy(t *testing.T) {
	old := grown()
	for _, c := range []struct {
		id     int
		frames []uint64
		number uint64
	}{{0, []uint64{5, 6, 7, 8, 9, 10}, 1}, {2, []uint64{12, 13, 18, 21}, 3}} {
		want := old.but(nil)
		for _, f := range c.frames {
			want.wipe(f)
			want.pool.Free |= 1 << (f - 4)
		}
		want.asids.Free |= 1 << (c.number - 1)
		want.spaces[c.id] = api.Space{}
		k, e := space.Destroy(old.made(), c.id)
		hold(t, fmt.Sprintf("Destroy(%d)", c.id), k, want.made(), e, api.OK)
		// and so it is while the other one is current
		other := switches(t, old, 2-c.id)
		want.now, want.satp = other.now, other.satp
		k, e = space.Destroy(other.made(), c.id)
		hold(t, fmt.Sprintf("Destroy(%d), switched", c.id), k, want.made(), e, api.OK)
	}
	none := destroys(t, destroys(t, old, 2), 0)
	if none.pool.Free != 1<<20-1-1-1<<11-1<<12 || none.asids.Free != 0b1111 || none.asids.Owned != 0b0111 {
		t.Errorf("of none there are %+v, %+v", none.pool, none.asids)
	}
}

// ids are such as live and such as don't, of kernels of a few spaces.
var ids = []int{0, 1, 2, 3, 4, -1, -2, -3, 31, 32, 1 << 32, -1 << 32, math.MaxInt, math.MinInt}

// P21.2: of an id that isn't a living space's, and of the current one; with an error all stays.
func TestDestroyOfWrongIds(t *testing.T) {
	for _, now := range []int{-1, 0, 2} {
		old := switches(t, grown(), now)
		for _, id := range ids {
			want := api.ErrSpace
			switch {
			case id == now && id >= 0:
				want = api.ErrBusy
			case id == 0 || id == 2:
				want = api.OK
			}
			if _, e := old.destroyed(id); e != want {
				t.Fatalf("Destroy(%d) is told %d, not %d", id, e, want)
			}
			destroys(t, old, id)
		}
	}
	gone := destroys(t, grown(), 0)
	if k, e := space.Destroy(gone.made(), 0); e != api.ErrSpace || !same(k, gone.made()) {
		t.Errorf("Destroy of what is destroyed is %d", e)
	}
	empty := begun(api.Conf{Data: 1, Pool: 2, Asids: 1})
	for _, id := range ids {
		destroys(t, empty, id)
	}
}

// P21.3: a living space, none, itself, and one that doesn't live.
func TestSwitch(t *testing.T) {
	for _, c := range []struct {
		id   int
		satp api.Satp
		err  api.Errno
	}{
		{-1, api.Satp{}, api.OK}, {0, api.Satp{Mode: 8, Asid: 1, Ppn: 5}, api.OK}, {2, api.Satp{Mode: 8, Asid: 3, Ppn: 12}, api.OK},
		{1, api.Satp{}, api.ErrSpace}, {3, api.Satp{}, api.ErrSpace}, {-2, api.Satp{}, api.ErrSpace}, {math.MinInt, api.Satp{}, api.ErrSpace}, {math.MaxInt, api.Satp{}, api.ErrSpace},
	} {
		for _, from := range []int{-1, 0, 2} {
			old := switches(t, grown(), from)
			want := old.made()
			if c.err == api.OK {
				want.Now, want.Hart.Satp = c.id, c.satp
			}
			k, e := space.Switch(old.made(), c.id)
			hold(t, fmt.Sprintf("Switch(%d) from %d", c.id, from), k, want, e, c.err)
		}
	}
	for _, id := range ids {
		switches(t, grown(), id)
		switches(t, begun(api.Conf{Data: 1, Pool: 1, Asids: 1}), id)
		switches(t, switches(t, grown(), 2), id)
	}
}

// tops are cases of Where, of the trees that are grown.
var tops = []struct {
	id    int
	addr  uint64
	level int
	frame uint64
	under int
	err   api.Errno
}{
	// a living space's, of each level
	{0, 0, 0, 5, 2, api.OK}, {0, 0x5000, 0, 5, 2, api.OK}, {0, 0x400000, 1, 5, 2, api.OK}, {0, 1 << 30, 2, 5, 2, api.OK}, {0, 0, 2, 5, 2, api.OK},
	{2, 0x5000, 0, 12, 2, api.OK}, {2, 0x3fffe00000, 1, 12, 2, api.OK}, {2, 0xffffffff80000000, 2, 12, 2, api.OK},
	{2, top - 4096, 0, 12, 2, api.OK}, {0, top - 1<<21, 1, 5, 2, api.OK}, {0, 0x3ffffff000, 0, 5, 2, api.OK}, {0, 0xffffffc000000000, 2, 5, 2, api.OK},
	// that of all, of the levels 0 and 1
	{-1, top, 0, 4, 1, api.OK}, {-1, top, 1, 4, 1, api.OK}, {-1, all - 4095, 0, 4, 1, api.OK}, {-1, all - 1<<21 + 1, 1, 4, 1, api.OK},
	// the index 511 is that of all alone, and of it the levels 0 and 1
	{0, top, 0, 0, 0, api.ErrRange}, {0, top, 1, 0, 0, api.ErrRange}, {0, top, 2, 0, 0, api.ErrRange}, {2, all - 4095, 0, 0, 0, api.ErrRange},
	{-1, top, 2, 0, 0, api.ErrRange}, {-1, 0, 0, 0, 0, api.ErrRange}, {-1, 0, 1, 0, 0, api.ErrRange}, {-1, 0, 2, 0, 0, api.ErrRange}, {-1, top - 4096, 0, 0, 0, api.ErrRange}, {-1, 0xffffffff80000000, 2, 0, 0, api.ErrRange},
	{-1, 0x3fffe00000, 1, 0, 0, api.ErrRange}, {-1, 0x3ffffff000, 0, 0, 0, api.ErrRange},
	// addresses that don't fit
	{0, 1, 0, 0, 0, api.ErrAlign}, {0, 0x5800, 0, 0, 0, api.ErrAlign}, {0, 0x5000, 1, 0, 0, api.ErrAlign}, {0, 0x200000, 2, 0, 0, api.ErrAlign}, {0, 1 << 38, 0, 0, 0, api.ErrAlign}, {2, 1 << 63, 2, 0, 0, api.ErrAlign},
	{-1, top + 4096, 1, 0, 0, api.ErrAlign}, {-1, top + 8, 0, 0, 0, api.ErrAlign}, {-1, 0x7fc0000000, 0, 0, 0, api.ErrAlign},
	// no such space
	{1, 0, 0, 0, 0, api.ErrSpace}, {3, 0, 1, 0, 0, api.ErrSpace}, {-2, top, 0, 0, 0, api.ErrSpace}, {math.MaxInt, 0, 2, 0, 0, api.ErrSpace}, {math.MinInt, 0, 2, 0, 0, api.ErrSpace},
	// no such level
	{0, 0, -1, 0, 0, api.ErrArg}, {0, 0, 3, 0, 0, api.ErrArg}, {-1, top, 3, 0, 0, api.ErrArg}, {-1, top, math.MinInt, 0, 0, api.ErrArg}, {2, 0, math.MaxInt, 0, 0, api.ErrArg},
	// the first of several
	{1, 1, 3, 0, 0, api.ErrArg}, {7, top, -1, 0, 0, api.ErrArg}, {-1, 1, 3, 0, 0, api.ErrArg}, {0, 1 << 38, 64, 0, 0, api.ErrArg}, {0, top, 3, 0, 0, api.ErrArg},
	{1, 1, 0, 0, 0, api.ErrSpace}, {3, 1 << 38, 2, 0, 0, api.ErrSpace}, {-2, top, 2, 0, 0, api.ErrSpace}, {1, top + 1, 1, 0, 0, api.ErrSpace},
	{-1, 5, 0, 0, 0, api.ErrAlign}, {-1, 4096, 2, 0, 0, api.ErrAlign}, {-1, top + 4096, 2, 0, 0, api.ErrAlign}, {0, top + 1, 0, 0, 0, api.ErrAlign}, {2, top + 4096, 1, 0, 0, api.ErrAlign},
}

// P21.3: the frame and the level of the top, or why there is none, written out.
func TestWhere(t *testing.T) {
	for _, now := range []int{-1, 0} {
		old := switches(t, grown(), now)
		for _, c := range tops {
			leads(t, old, c.id, c.addr, c.level, c.frame, c.under, c.err)
		}
	}
}

// P21.3: of all ids, levels and addresses that are around an end of something.
func TestWhereOfAll(t *testing.T) {
	old, met := grown(), map[api.Errno]int{}
	addrs := []uint64{}
	for _, end := range []uint64{0, 1 << 30, 1 << 38, 1<<39 - 1<<30, 1 << 39, 1 << 63, top, top - 1<<30, 0xffffffc000000000} {
		for _, by := range []uint64{0, 1, 8, 4095, 4096, 1<<21 - 1, 1 << 21, 1 << 30, 1<<30 + 1<<21 + 1<<12} {
			addrs = append(addrs, end+by, end-by)
		}
	}
	for _, id := range ids {
		for _, level := range []int{0, 1, 2, 3, -1, 64, math.MinInt, math.MaxInt} {
			for _, addr := range addrs {
				frame, under, wrong := old.where(id, addr, level)
				leads(t, old, id, addr, level, frame, under, wrong)
				met[wrong]++
			}
		}
	}
	if len(met) != 5 || met[api.OK] < 50 {
		t.Errorf("met are %v", met)
	}
}

// P21.3: none, one and some fences, where Fences is empty and where it isn't.
func TestFence(t *testing.T) {
	busy := grown()
	busy.sets = []api.Set{
		full(entry(1, false, 0, 0x6000), entry(2, false, 0, 0x6000), entry(2, true, 1, 0x400000), entry(3, false, 2, 0)),
		full(entry(1, false, 0, 0x5000), entry(2, false, 1, 0x200000), entry(3, true, 0, all-4095), entry(4, false, 2, 1<<30)),
	}
	busy.conf.Sets = 2
	quiet := busy.but(nil)
	quiet.fences = nil
	lists := [][]api.Fence{
		nil, {}, {{}}, {{HasAsid: true, Asid: 2}}, {{HasAddr: true, Addr: 0x6abc}}, {{HasAddr: true, Addr: 0x5000, HasAsid: true, Asid: 1}},
		{{HasAddr: true, Addr: all}, {HasAsid: true, Asid: 9}}, {{HasAsid: true, Asid: 1}, {HasAsid: true, Asid: 1}, {HasAddr: true, Addr: 1 << 38}, {HasAddr: true, Addr: 0x6000, HasAsid: true, Asid: 3}},
	}
	gone := []int{0, 0, 8, 2, 3, 1, 1, 3}
	for i, l := range lists {
		for _, old := range []kernel{busy, quiet} {
			k := fences(t, old, l...)
			was, is := valid(old.sets), valid(k.sets)
			if was != 8 || was-is != gone[i] || len(k.fences) != len(old.fences)+len(l) {
				t.Errorf("%d: %d entries are left, and %d fences", i, is, len(k.fences))
			}
			fences(t, k, lists[3]...)
		}
		bare := begun(api.Conf{Data: 1, Pool: 1, Asids: 1})
		fences(t, fences(t, bare, l...), lists[2]...)
	}
	long := make([]api.Fence, 300)
	for i := range long {
		long[i] = api.Fence{HasAddr: true, Addr: uint64(i) << 12}
	}
	fences(t, busy, long...)
}

// valid counts the entries of sets.
func valid(l []api.Set) (n int) {
	for _, s := range l {
		for _, e := range s.Ways {
			if e.Valid {
				n++
			}
		}
	}
	return n
}

// run is a kernel under way: numbers come of a rule.
type run struct {
	kernel
	seed uint64
}

// next tells the next number below n.
func (k *run) next(n uint64) uint64 {
	k.seed = k.seed*6364136223846793005 + 1442695040888963407
	return k.seed >> 33 % n
}

// table takes a free frame for a table, if there is one.
func (k *run) table() (uint64, bool) {
	i := least(k.pool.Free)
	if i == 64 {
		return 0, false
	}
	k.pool.Free -= 1 << i
	return k.pool.Base + uint64(i), true
}

// lay puts tables and a page into the tree of a space, or, of the id -1, into the shared table's, as far as there are frames; nothing, if no such space lives.
func (k *run) lay(id int) {
	frame, level, most := k.shared, 1, uint64(512)
	if id != -1 {
		if !k.lives(id) {
			return
		}
		frame, level, most = k.spaces[id].Root, 2, 511
	}
	k.kernel = k.but(nil)
	for ; level > int(k.next(2)); level-- {
		place := at(frame, []uint64{0, 3, most - 1}[k.next(3)])
		if k.words[place] == 0 {
			f, ok := k.table()
			if !ok {
				return
			}
			k.words[place] = word(f, v)
		}
		if k.words[place]&(r+x) != 0 {
			return
		}
		frame, most = k.words[place]/1024, 512
	}
	if place := at(frame, k.next(most)); k.words[place] == 0 {
		k.words[place] = word(spans[level], []uint64{v + r, v + r + w + u + a + d, v + x + g}[k.next(3)])
	}
}

// bring puts an entry into the buffer, in its set, if none there is of the same addresses.
func (k *run) bring() {
	if len(k.sets) == 0 {
		return
	}
	k.kernel = k.but(nil)
	e := entry(1+k.next(4), k.next(4) == 0, int(k.next(3)), k.addr())
	s := &k.sets[e.Vpn/spans[e.Level]%uint64(len(k.sets))]
	for _, o := range s.Ways {
		if o.Valid && o.Level == e.Level && o.Vpn == e.Vpn {
			return
		}
	}
	s.Ways[k.next(4)] = e
	s.Tree = uint8(k.next(8))
}

// addr tells an address of few.
func (k *run) addr() uint64 {
	return []uint64{0, 0x5000, 0x200000, 0x40000000, top, all - 4095}[k.next(6)]
}

// fence tells a fence.
func (k *run) fence() (f api.Fence) {
	if k.next(2) == 0 {
		f.HasAddr, f.Addr = true, k.addr()+k.next(4096)
	}
	if k.next(3) > 0 {
		f.HasAsid, f.Asid = true, 1+k.next(4)
	}
	return f
}

// step does something, and holds it against what is told, of the kernel that was told and of that which was answered.
func (k *run) step(t *testing.T, now *api.Kernel) api.Errno {
	id := int(k.next(uint64(len(k.spaces)+3))) - 2
	var e, wrong api.Errno
	switch k.next(9) {
	case 0, 1:
		if len(k.spaces) < 32 || k.next(4) == 0 {
			*now, _, e = space.Create(*now)
			_, _, wrong = k.created()
			k.kernel = creates(t, k.kernel)
		}
	case 2, 3:
		*now, e = space.Destroy(*now, id)
		_, wrong = k.destroyed(id)
		k.kernel = destroys(t, k.kernel, id)
	case 4:
		*now, e = space.Switch(*now, id)
		_, wrong = k.switched(id)
		k.kernel = switches(t, k.kernel, id)
	case 5:
		l := []api.Fence{k.fence(), k.fence(), k.fence()}[:k.next(4)]
		*now = space.Fence(*now, l)
		k.kernel = fences(t, k.kernel, l...)
	case 6, 7:
		k.lay(int(k.next(uint64(len(k.spaces)+1))) - 1)
		*now = k.made()
	case 8:
		k.bring()
		*now = k.made()
	}
	hold(t, "what was answered", *now, k.made(), e, wrong)
	return e
}

// P21.1 to P21.3: many calls, one behind the other, are as the chapter tells them.
func TestRuns(t *testing.T) {
	met := map[api.Errno]int{}
	for n := range uint64(60) {
		c := api.Conf{Data: 3, Pool: []int{2, 5, 12, 40, 64}[n%5], Asids: []int{1, 3, 16}[n%3], Sets: []int{0, 1, 2, 5}[n%4]}
		now, _ := space.New(c)
		k := run{begun(c), n * 977}
		for range 260 {
			met[k.step(t, &now)]++
		}
	}
	for _, e := range []api.Errno{api.OK, api.ErrArg, api.ErrSpace, api.ErrFrames, api.ErrAsids, api.ErrBusy} {
		if met[e] < 20 {
			t.Errorf("%d steps are %d", met[e], e)
		}
	}
}

// P21.4: behind the destroying of all that were created, whatever their trees have, all frames and numbers are free that were.
func TestAllAreFreeAgain(t *testing.T) {
	for n := range uint64(60) {
		c := api.Conf{Data: 3, Pool: []int{3, 8, 30, 64}[n%4], Asids: []int{2, 4, 16}[n%3], Sets: 2}
		k := run{begun(c), n * 31}
		for range n % 5 {
			k.lay(-1)
		}
		before := k.but(nil)
		now, made := k.made(), 0
		for range 1 + n%9 {
			var e api.Errno
			if now, _, e = space.Create(now); e == api.OK {
				made++
			}
		}
		if made == 0 && before.pool.Free != 0 {
			t.Fatalf("%d: none was created", n)
		}
		k.kernel = told(now)
		for range 3 * n % 25 {
			k.lay(int(k.next(9)))
		}
		now = k.made()
		for i := range made {
			id := (i*7 + int(n)) % made
			if made%7 == 0 {
				id = made - 1 - i
			}
			var e api.Errno
			if now, e = space.Destroy(now, id); e != api.OK {
				t.Fatalf("%d: Destroy(%d) is %d", n, id, e)
			}
		}
		if now.Pool != before.pool || now.Asids.Free != before.asids.Free {
			t.Errorf("%d: free are %+v and %+v, not %+v and %+v", n, now.Pool, now.Asids, before.pool, before.asids)
		}
		if !slices.Equal(now.Mem.Cells, before.words.cells()) {
			t.Errorf("%d: the memory isn't as it was", n)
		}
	}
}

// told tells a kernel that was answered.
func told(k api.Kernel) kernel {
	l := words{}
	for _, c := range k.Mem.Cells {
		l[c.At*8] = c.Val
	}
	h := k.Hart
	h.Tlb.Sets, h.Satp = nil, api.Satp{}
	return kernel{k.Conf, l, k.Hart.Tlb.Sets, k.Hart.Satp, h, k.Pool, k.Asids, k.Spaces, k.Now, k.Shared, k.Fences}
}

// TestExample is the chapter's example: of four frames of tables three are free; behind Create two are, and behind Destroy three.
func TestExample(t *testing.T) {
	k, e := space.New(api.Conf{Data: 1, Pool: 4, Asids: 1})
	if e != api.OK || k.Pool.Free != 0b1110 {
		t.Fatalf("New is %d, of %#b", e, k.Pool.Free)
	}
	k, id, e := space.Create(k)
	if e != api.OK || id != 0 || k.Pool.Free != 0b1100 {
		t.Fatalf("Create is %d, %d, of %#b", id, e, k.Pool.Free)
	}
	k, e = space.Destroy(k, id)
	if e != api.OK || k.Pool.Free != 0b1110 {
		t.Fatalf("Destroy is %d, of %#b", e, k.Pool.Free)
	}
}

// TestWholeExample is what the document's examples of the whole tell of spaces: a new kernel of 4 frames of data, 8 of tables, two numbers, one set.
func TestWholeExample(t *testing.T) {
	k, _ := space.New(api.Conf{Data: 4, Pool: 8, Asids: 2, Sets: 1})
	k, id, _ := space.Create(k)
	if id != 0 || k.Shared != 4 || k.Spaces[0] != (api.Space{Root: 5, Asid: 1, Live: true}) || len(k.Fences) != 0 {
		t.Fatalf("the first is %d, %+v", id, k)
	}
	k, _ = space.Switch(k, 0)
	k, _ = space.Switch(k, -1)
	k, _ = space.Destroy(k, 0)
	k, id, _ = space.Create(k)
	if id != 1 || k.Spaces[1] != (api.Space{Root: 5, Asid: 1, Live: true}) || !slices.Equal(k.Fences, []api.Fence{{HasAsid: true, Asid: 1}}) {
		t.Errorf("the second is %d, %+v", id, k)
	}
}

// whole tells all of a list, and what is in the room behind it.
func whole[T any](l []T) []T {
	return slices.Clone(l[:cap(l)])
}

// image tells all lists of a kernel, the room behind them included.
func image(k api.Kernel) api.Kernel {
	k.Mem.Cells, k.Hart.Tlb.Sets, k.Spaces, k.Fences = whole(k.Mem.Cells), whole(k.Hart.Tlb.Sets), whole(k.Spaces), whole(k.Fences)
	return k
}

// paint writes into all of a list, and into the room behind it.
func paint[T any](l []T, by T) {
	l = l[:cap(l)]
	for i := range l {
		l[i] = by
	}
}

// spoil writes into those lists of a kernel that aren't as they are in another one.
func spoil(k, old api.Kernel) {
	if !slices.Equal(k.Mem.Cells, old.Mem.Cells) {
		paint(k.Mem.Cells, api.Cell{At: 66, Val: 99})
	}
	if !slices.Equal(k.Hart.Tlb.Sets, old.Hart.Tlb.Sets) {
		paint(k.Hart.Tlb.Sets, api.Set{Tree: 7})
	}
	if !slices.Equal(k.Spaces, old.Spaces) {
		paint(k.Spaces, api.Space{Root: 66})
	}
	if !slices.Equal(k.Fences, old.Fences) {
		paint(k.Fences, api.Fence{Asid: 66})
	}
}

// calls are calls of each sort, of the kernel that was grown.
func calls() map[string]func(k api.Kernel) api.Kernel {
	destroy := func(id int) func(k api.Kernel) api.Kernel {
		return func(k api.Kernel) api.Kernel { n, _ := space.Destroy(k, id); return n }
	}
	to := func(id int) func(k api.Kernel) api.Kernel {
		return func(k api.Kernel) api.Kernel { n, _ := space.Switch(k, id); return n }
	}
	fence := func(l ...api.Fence) func(k api.Kernel) api.Kernel {
		return func(k api.Kernel) api.Kernel { return space.Fence(k, l) }
	}
	return map[string]func(k api.Kernel) api.Kernel{
		"created":               func(k api.Kernel) api.Kernel { n, _, _ := space.Create(k); return n },
		"created, never owned":  func(k api.Kernel) api.Kernel { k.Asids.Owned = 0; n, _, _ := space.Create(k); return n },
		"numbers lack":          func(k api.Kernel) api.Kernel { k.Asids.Free = 0; n, _, _ := space.Create(k); return n },
		"frames lack":           func(k api.Kernel) api.Kernel { k.Pool.Free = 0; n, _, _ := space.Create(k); return n },
		"the first is gone":     destroy(0),
		"the last is gone":      destroy(2),
		"no such one":           destroy(1),
		"switched":              to(2),
		"switched to none":      to(-1),
		"not switched":          to(3),
		"fenced":                fence(api.Fence{HasAsid: true, Asid: 1}, api.Fence{HasAddr: true, Addr: 0x2000}),
		"fenced, nothing named": fence(api.Fence{HasAsid: true, Asid: 9}),
		"not fenced":            fence(),
		"asked": func(k api.Kernel) api.Kernel {
			space.Where(k, 0, 0, 0)
			space.Where(k, -1, top, 0)
			return k
		},
	}
}

// P21.5: what is handed in stays, the room behind its lists included, and what is answered shares nothing with it where it isn't as it was.
func TestHandedInStays(t *testing.T) {
	for name, call := range calls() {
		k := grown().made()
		before := image(k)
		n := call(k)
		if !same(image(k), before) {
			t.Errorf("%s: the kernel was changed", name)
		}
		spoil(n, k)
		if !same(image(k), before) {
			t.Errorf("%s: the answer shares with what was handed in", name)
		}
	}
	l := row([]api.Fence{{HasAsid: true, Asid: 1}, {}}, api.Fence{Addr: 5})
	before := whole(l)
	for _, old := range []kernel{grown(), begun(api.Conf{Data: 1, Pool: 1, Asids: 1})} {
		k := space.Fence(old.made(), l)
		if !slices.Equal(whole(l), before) {
			t.Error("the fences were changed")
		}
		paint(k.Fences, api.Fence{Asid: 66})
		if !slices.Equal(whole(l), before) {
			t.Error("the fences that were done are those that were handed in")
		}
	}
}

// P21.5: nothing is kept from call to call, and one answer isn't another's, also where both come of one kernel.
func TestNothingIsKept(t *testing.T) {
	for name, call := range calls() {
		for other, next := range calls() {
			k := grown().made()
			first, want := call(k), call(grown().made())
			second := next(k)
			if !same(first, want) {
				t.Fatalf("%s: %s changed the answer", other, name)
			}
			spoil(second, k)
			if !same(first, want) || !same(call(k), want) {
				t.Fatalf("%s and %s share", other, name)
			}
			// what comes of an answer doesn't change it, nor what else came of it
			third := next(first)
			again := image(third)
			call(first)
			if !same(first, want) || !same(image(third), again) {
				t.Fatalf("%s: %s changed what it was handed", name, other)
			}
		}
	}
}

// P21.1 and P21.5: two new kernels share nothing.
func TestNewIsNew(t *testing.T) {
	c := api.Conf{Data: 1, Pool: 3, Asids: 2, Sets: 4}
	k, _ := space.New(c)
	paint(k.Hart.Tlb.Sets, api.Set{Tree: 7})
	paint(k.Mem.Cells, api.Cell{At: 1, Val: 1})
	paint(k.Spaces, api.Space{Live: true})
	paint(k.Fences, api.Fence{HasAsid: true})
	n, e := space.New(c)
	hold(t, "New", n, begun(c).made(), e, api.OK)
}

// P21.5: nil and empty lists are one.
func TestNilAndEmpty(t *testing.T) {
	want := begun(api.Conf{Data: 2, Pool: 3, Asids: 2})
	k := want.made()
	k.Mem.Cells, k.Hart.Tlb.Sets, k.Spaces, k.Fences = nil, nil, nil, nil
	empty := k
	empty.Mem.Cells, empty.Hart.Tlb.Sets, empty.Spaces, empty.Fences = []api.Cell{}, []api.Set{}, []api.Space{}, []api.Fence{}
	for _, k := range []api.Kernel{k, empty} {
		hold(t, "Fence of nil", space.Fence(k, nil), want.made(), 0, 0)
		hold(t, "Fence of none", space.Fence(k, []api.Fence{}), want.made(), 0, 0)
		hold(t, "Fence", space.Fence(k, []api.Fence{{}}), want.fenced(api.Fence{}).made(), 0, 0)
		n, e := space.Destroy(k, 0)
		hold(t, "Destroy", n, want.made(), e, api.ErrSpace)
		n, e = space.Switch(k, -1)
		hold(t, "Switch", n, want.made(), e, api.OK)
		more, _, _ := want.created()
		n, _, e = space.Create(k)
		hold(t, "Create", n, more.made(), e, api.OK)
	}
}

// odd are kernels that come of none of the calls.
func odd() []api.Kernel {
	l := []api.Kernel{{}, {Now: 5, Shared: all}, {Spaces: make([]api.Space, 99), Now: math.MinInt}}
	mems := []api.Mem{
		{}, {Size: 1}, {Size: all}, {Size: 8192, Cells: []api.Cell{{At: 9, Val: v}, {At: 3, Val: v + r}, {At: 3}, {At: all, Val: all}, {At: 512, Val: word(1, v)}}},
		{Size: 8192, Cells: []api.Cell{{At: 0, Val: word(0, v)}, {At: 5, Val: word(1, v)}, {At: 511, Val: word(1, v)}, {At: 512, Val: word(0, v)}, {At: 1023, Val: word(1<<44-1, v)}}},
		{Size: 1 << 41, Cells: []api.Cell{{}, {}, {At: 1 << 61, Val: all}}},
	}
	pools := []api.Pool{{}, {Many: 2, Free: 3}, {Base: all, Many: 65, Free: all}, {Base: 1 << 52, Many: math.MaxInt, Free: 1 << 63}, {Many: math.MinInt, Free: all}, {Base: 1, Many: -1, Free: 5}}
	numbers := []api.Asids{{}, {Many: 2, Free: 3, Owned: all}, {Many: 65, Free: all}, {Many: math.MinInt, Free: 1 << 63}, {Many: math.MaxInt, Free: all, Owned: 1}, {Many: -1, Free: 5}}
	sets := [][]api.Set{nil, {{Tree: 200}}, make([]api.Set, 17), {{Ways: [4]api.Entry{{Valid: true, Level: 9, Vpn: all, Asid: all}, {Valid: true, Level: math.MinInt}, {Level: -1}, {Valid: true, Level: math.MaxInt, Global: true}}}}}
	for i, m := range mems {
		for j, p := range pools {
			for n, a := range numbers {
				s := []api.Space{{Root: 0, Asid: 1, Live: true}, {Root: all, Asid: all, Live: true}, {Root: 1 << 44, Live: true}, {Root: 7}, {Root: 1, Asid: 64, Live: true}, {Root: uint64(i + j), Asid: uint64(n), Live: true}}
				l = append(l, api.Kernel{
					Conf: api.Conf{Data: -1, Pool: 900, Asids: i, Sets: j}, Mem: m, Hart: api.Hart{Tlb: api.Tlb{Sets: sets[(i+j+n)%4]}, Satp: api.Satp{Mode: all}, Priv: -7, Victim: math.MinInt},
					Pool: p, Asids: a, Spaces: s[:(i+j*n)%7], Now: j*2 - n, Shared: []uint64{0, 1, 7, 1<<44 - 1, 1 << 44, all}[(i+n)%6],
				})
			}
		}
	}
	return l
}

// Of kernels that come of none of these calls nothing is promised, but no call panics, and all end.
func TestNoPanic(t *testing.T) {
	for _, k := range odd() {
		space.Create(k)
		space.Fence(k, nil)
		space.Fence(k, []api.Fence{{}, {HasAddr: true, Addr: 1 << 38}, {HasAsid: true, Asid: all}, {HasAddr: true, Addr: all, HasAsid: true}})
		for _, id := range append([]int{5, 6, 98, 99}, ids...) {
			space.Destroy(k, id)
			space.Switch(k, id)
			for _, level := range []int{0, 1, 2, 3, -1, math.MinInt, math.MaxInt} {
				for _, addr := range []uint64{0, 1, 0x5000, 1 << 38, top, all, 0x123456789abcdef0} {
					space.Where(k, id, addr, level)
				}
			}
		}
	}
}
