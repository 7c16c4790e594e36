package mem_test

import (
	"math"
	"reflect"
	"slices"
	"testing"

	"atlas/api"
	"atlas/mem"
)

const (
	all  = ^uint64(0)
	most = 1 << 40
)

var sizes = []int{1, 2, 4, 8}

// same tells whether two memories are the same; nil and empty lists are one.
func same(a, b api.Mem) bool {
	return a.Size == b.Size && slices.Equal(a.Cells, b.Cells)
}

// clone answers the memory in a list of its own, without room behind it.
func clone(m api.Mem) api.Mem {
	return api.Mem{Size: m.Size, Cells: slices.Clip(slices.Clone(m.Cells))}
}

// some is a memory of two pages: words at its beginning, at its end and at the pages' edge, side by side and apart.
func some() api.Mem {
	return api.Mem{Size: 8192, Cells: []api.Cell{
		{At: 0, Val: 0x0102030405060708},
		{At: 1, Val: 0x1112131415161718},
		{At: 3, Val: 0xff},
		{At: 511, Val: 0x2122232425262728},
		{At: 512, Val: 0xfedcba9876543210},
		{At: 700, Val: 1 << 63},
		{At: 1023, Val: 0x3132333435363738},
	}}
}

// held is a memory told byte by byte.
type held struct {
	size  uint64
	bytes map[uint64]byte
}

func holding(m api.Mem) held {
	h := held{m.Size, map[uint64]byte{}}
	for _, c := range m.Cells {
		for i := range uint64(8) {
			h.bytes[c.At*8+i] = byte(c.Val >> (8 * i))
		}
	}
	return h
}

// refused tells the first of the errors that apply.
func (h held) refused(at uint64, size int) api.Errno {
	if !slices.Contains(sizes, size) {
		return api.ErrArg
	}
	if at%uint64(size) != 0 {
		return api.ErrAlign
	}
	if at >= h.size {
		return api.ErrRange
	}
	return api.OK
}

func (h held) load(at uint64, size int) (v uint64) {
	for i := range size {
		v += uint64(h.bytes[at+uint64(i)]) << (8 * i)
	}
	return v
}

func (h held) store(at uint64, size int, v uint64) {
	for i := range size {
		h.bytes[at+uint64(i)] = byte(v >> (8 * i))
	}
}

func (h held) clear(at, many uint64) {
	for i := range many {
		delete(h.bytes, at+i)
	}
}

// laid tells the memory that holds those bytes, word by word.
func (h held) laid() api.Mem {
	m := api.Mem{Size: h.size}
	for at := uint64(0); at < h.size; at += 8 {
		if v := h.load(at, 8); v != 0 {
			m.Cells = append(m.Cells, api.Cell{At: at / 8, Val: v})
		}
	}
	return m
}

// P3.1: a memory is new and empty, of a Size that may be; else there is a zero one and ErrArg.
func TestNew(t *testing.T) {
	for _, x := range []struct {
		size uint64
		want api.Errno
	}{
		{0, api.OK},
		{4096, api.OK},
		{8192, api.OK},
		{4096 * 12345, api.OK},
		{1 << 32, api.OK},
		{most - 4096, api.OK},
		{most, api.OK},
		// too great
		{most + 4096, api.ErrArg},
		{most << 1, api.ErrArg},
		{1 << 63, api.ErrArg},
		{1 << 52, api.ErrArg},
		{all - 4095, api.ErrArg},
		// not a multiple
		{1, api.ErrArg},
		{8, api.ErrArg},
		{2048, api.ErrArg},
		{4095, api.ErrArg},
		{4097, api.ErrArg},
		{4096 + 2048, api.ErrArg},
		{most - 1, api.ErrArg},
		{most + 1, api.ErrArg},
		{all, api.ErrArg},
	} {
		m, e := mem.New(x.size)
		if e != x.want {
			t.Errorf("New(%#x) is refused with %d, not %d", x.size, e, x.want)
		}
		want := api.Mem{}
		if x.want == api.OK {
			want.Size = x.size
		}
		if !same(m, want) {
			t.Errorf("New(%#x) is %v", x.size, m)
		}
		if !mem.Right(m) {
			t.Errorf("New(%#x) isn't right", x.size)
		}
	}
}

// P3.1: which memories are right.
func TestRight(t *testing.T) {
	const end = most / 8
	for _, x := range []struct {
		what  string
		size  uint64
		cells []api.Cell
		want  bool
	}{
		{"the zero one", 0, nil, true},
		{"an empty list", 4096, []api.Cell{}, true},
		{"one cell at the beginning", 4096, []api.Cell{{At: 0, Val: 1}}, true},
		{"one cell at the end", 4096, []api.Cell{{At: 511, Val: all}}, true},
		{"cells side by side", 4096, []api.Cell{{At: 0, Val: 1}, {At: 1, Val: 1}, {At: 2, Val: 1}}, true},
		{"cells apart", 8192, []api.Cell{{At: 3, Val: 9}, {At: 512, Val: 9}, {At: 1023, Val: 9}}, true},
		{"the greatest", most, []api.Cell{{At: 0, Val: 1}, {At: end - 1, Val: 1}}, true},
		{"some", 8192, some().Cells, true},

		{"a Size that is no multiple", 4097, nil, false},
		{"a Size of a word", 8, nil, false},
		{"a Size of half a page more", 4096 + 2048, []api.Cell{{At: 0, Val: 1}}, false},
		{"too great a Size", most + 4096, nil, false},
		{"too great a Size, a cell in it", most + 4096, []api.Cell{{At: 0, Val: 1}}, false},
		{"a Size near the end of numbers", all - 4095, nil, false},
		{"a Val of 0", 4096, []api.Cell{{At: 1}}, false},
		{"a Val of 0, the first", 4096, []api.Cell{{At: 1}, {At: 2, Val: 1}}, false},
		{"a Val of 0, in the middle", 4096, []api.Cell{{At: 1, Val: 1}, {At: 2}, {At: 3, Val: 1}}, false},
		{"a Val of 0, the last", 4096, []api.Cell{{At: 1, Val: 1}, {At: 2, Val: 1}, {At: 3}}, false},
		{"cells that fall", 4096, []api.Cell{{At: 2, Val: 1}, {At: 1, Val: 1}}, false},
		{"cells that fall after having risen", 4096, []api.Cell{{At: 1, Val: 1}, {At: 3, Val: 1}, {At: 2, Val: 1}}, false},
		{"cells that fall to 0", 4096, []api.Cell{{At: 1, Val: 1}, {At: 0, Val: 1}}, false},
		{"cells at one place", 4096, []api.Cell{{At: 2, Val: 1}, {At: 2, Val: 1}}, false},
		{"cells at one place, of two values", 4096, []api.Cell{{At: 2, Val: 1}, {At: 2, Val: 2}}, false},
		{"cells at the place 0", 4096, []api.Cell{{At: 0, Val: 1}, {At: 0, Val: 1}}, false},
		{"a cell beyond the Size", 4096, []api.Cell{{At: 512, Val: 1}}, false},
		{"the last cell beyond the Size", 4096, []api.Cell{{At: 511, Val: 1}, {At: 512, Val: 1}}, false},
		{"a cell at an address", 4096, []api.Cell{{At: 4088, Val: 1}}, false},
		{"a cell in no memory", 0, []api.Cell{{At: 0, Val: 1}}, false},
		{"a cell beyond the greatest", most, []api.Cell{{At: end, Val: 1}}, false},
		{"a cell at the greatest place", 4096, []api.Cell{{At: all, Val: 1}}, false},
		{"a cell after the greatest place", most, []api.Cell{{At: all, Val: 1}, {At: 0, Val: 1}}, false},
		{"a cell whose address would wrap round", 4096, []api.Cell{{At: 1 << 61, Val: 1}}, false},
	} {
		if v := mem.Right(api.Mem{Size: x.size, Cells: x.cells}); v != x.want {
			t.Errorf("%s: Right is %v", x.what, v)
		}
	}
}

// asked are the errors of bytes in a memory of 8192, for Load and Store alike.
var asked = []struct {
	at   uint64
	size int
	want api.Errno
}{
	// each size, at the beginning and at the end
	{0, 1, api.OK},
	{0, 2, api.OK},
	{0, 4, api.OK},
	{0, 8, api.OK},
	{8191, 1, api.OK},
	{8190, 2, api.OK},
	{8188, 4, api.OK},
	{8184, 8, api.OK},
	{4095, 1, api.OK},
	{4096, 8, api.OK},
	// sizes that are none, whatever the address
	{0, 0, api.ErrArg},
	{0, 3, api.ErrArg},
	{0, 5, api.ErrArg},
	{0, 6, api.ErrArg},
	{0, 7, api.ErrArg},
	{0, 9, api.ErrArg},
	{0, 16, api.ErrArg},
	{0, -1, api.ErrArg},
	{0, -8, api.ErrArg},
	{0, math.MinInt, api.ErrArg},
	{0, math.MaxInt, api.ErrArg},
	{0, 1<<32 + 1, api.ErrArg},
	{1, 0, api.ErrArg},
	{1, 3, api.ErrArg},
	{8192, 0, api.ErrArg},
	{8192, 16, api.ErrArg},
	{8193, 3, api.ErrArg},
	{all, -1, api.ErrArg},
	// no multiples, in the memory and beyond it
	{1, 2, api.ErrAlign},
	{1, 4, api.ErrAlign},
	{2, 4, api.ErrAlign},
	{3, 4, api.ErrAlign},
	{1, 8, api.ErrAlign},
	{4, 8, api.ErrAlign},
	{7, 8, api.ErrAlign},
	{8191, 2, api.ErrAlign},
	{8190, 4, api.ErrAlign},
	{8188, 8, api.ErrAlign},
	{8193, 2, api.ErrAlign},
	{8194, 4, api.ErrAlign},
	{8196, 8, api.ErrAlign},
	{all, 2, api.ErrAlign},
	{all, 8, api.ErrAlign},
	{1<<63 + 4, 8, api.ErrAlign},
	// beyond the memory
	{8192, 1, api.ErrRange},
	{8192, 2, api.ErrRange},
	{8192, 4, api.ErrRange},
	{8192, 8, api.ErrRange},
	{8193, 1, api.ErrRange},
	{8200, 8, api.ErrRange},
	{most, 8, api.ErrRange},
	{1 << 63, 8, api.ErrRange},
	{all, 1, api.ErrRange},
	{all - 7, 8, api.ErrRange},
}

// P3.2: the errors, in their order: 0 beside them, or the memory that was handed in.
func TestErrors(t *testing.T) {
	for _, x := range asked {
		m := some()
		v, e := mem.Load(m, x.at, x.size)
		if e != x.want || e != api.OK && v != 0 {
			t.Errorf("Load(%#x, %d) is %#x, %d, not %d", x.at, x.size, v, e, x.want)
		}
		n, e := mem.Store(m, x.at, x.size, all)
		if e != x.want || e != api.OK && !same(n, some()) || !mem.Right(n) {
			t.Errorf("Store(%#x, %d) is %v, %d, not %d", x.at, x.size, n, e, x.want)
		}
	}
}

// P3.2: in a memory of no bytes there are none, the errors before that being as anywhere.
func TestNoBytes(t *testing.T) {
	for _, x := range []struct {
		at   uint64
		size int
		want api.Errno
	}{{0, 8, api.ErrRange}, {0, 1, api.ErrRange}, {1, 1, api.ErrRange}, {1, 2, api.ErrAlign}, {1, 3, api.ErrArg}} {
		if v, e := mem.Load(api.Mem{}, x.at, x.size); v != 0 || e != x.want {
			t.Errorf("Load(%#x, %d) is %#x, %d", x.at, x.size, v, e)
		}
		if n, e := mem.Store(api.Mem{}, x.at, x.size, 1); !same(n, api.Mem{}) || e != x.want {
			t.Errorf("Store(%#x, %d) is %v, %d", x.at, x.size, n, e)
		}
	}
}

// P3.2: bytes are loaded, the lowest first, of each size and at each place in a word.
func TestLoad(t *testing.T) {
	for _, x := range []struct {
		at   uint64
		size int
		want uint64
	}{
		{0, 8, 0x0102030405060708},
		{0, 4, 0x05060708},
		{4, 4, 0x01020304},
		{0, 2, 0x0708},
		{2, 2, 0x0506},
		{6, 2, 0x0102},
		{0, 1, 8},
		{1, 1, 7},
		{7, 1, 1},
		{8, 1, 0x18},
		{8, 8, 0x1112131415161718},
		{4088, 8, 0x2122232425262728},
		{4095, 1, 0x21},
		{4096, 1, 0x10},
		{4100, 4, 0xfedcba98},
		{8184, 8, 0x3132333435363738},
		{8188, 4, 0x31323334},
		{8190, 2, 0x3132},
		{8191, 1, 0x31},
		// words that no cell has: between cells, and side by side with one
		{16, 8, 0},
		{23, 1, 0},
		{32, 4, 0},
		{8176, 8, 0},
		{4104, 2, 0},
		// bytes that are 0 in a word that isn't
		{25, 1, 0},
		{28, 4, 0},
		{5600, 4, 0},
		{5607, 1, 0x80},
	} {
		if v, e := mem.Load(some(), x.at, x.size); v != x.want || e != api.OK {
			t.Errorf("Load(%#x, %d) is %#x, %d, not %#x", x.at, x.size, v, e, x.want)
		}
	}
}

// P3.2: every address of a memory, at each size.
func TestLoadEverywhere(t *testing.T) {
	m := some()
	h := holding(m)
	for at := uint64(0); at < m.Size+64; at++ {
		for _, size := range sizes {
			want := h.refused(at, size)
			v, e := mem.Load(m, at, size)
			if e != want || e == api.OK && v != h.load(at, size) || e != api.OK && v != 0 {
				t.Fatalf("Load(%#x, %d) is %#x, %d", at, size, v, e)
			}
		}
	}
}

// P3.2: the word in which an address is, whichever of its bytes that is; beyond the Size 0.
func TestWord(t *testing.T) {
	m := some()
	h := holding(m)
	for at := uint64(0); at < m.Size+64; at++ {
		if v := mem.Word(m, at); v != h.load(at/8*8, 8) {
			t.Fatalf("Word(%#x) is %#x", at, v)
		}
	}
	for _, at := range []uint64{8192, 8193, 8192 + 8184, 1 << 16, most, 1 << 61, 1 << 63, 1<<63 + 8, all - 7, all} {
		if v := mem.Word(m, at); v != 0 {
			t.Errorf("Word(%#x) is %#x", at, v)
		}
	}
	for _, at := range []uint64{0, 1, 4096, all} {
		if v := mem.Word(api.Mem{}, at); v != 0 {
			t.Errorf("of no bytes Word(%#x) is %#x", at, v)
		}
	}
}

// P3.2: bytes are stored: what the cells are then.
func TestStore(t *testing.T) {
	few := []api.Cell{{At: 1, Val: 0x0102030405060708}, {At: 3, Val: 0xff}}
	for _, x := range []struct {
		what  string
		at    uint64
		size  int
		v     uint64
		cells []api.Cell
	}{
		{"a byte of a word", 8, 1, 0xaa, []api.Cell{{At: 1, Val: 0x01020304050607aa}, {At: 3, Val: 0xff}}},
		{"the highest byte of a word", 15, 1, 0xaa, []api.Cell{{At: 1, Val: 0xaa02030405060708}, {At: 3, Val: 0xff}}},
		{"two bytes", 10, 2, 0xaabb, []api.Cell{{At: 1, Val: 0x01020304aabb0708}, {At: 3, Val: 0xff}}},
		{"the high half", 12, 4, 0xaabbccdd, []api.Cell{{At: 1, Val: 0xaabbccdd05060708}, {At: 3, Val: 0xff}}},
		{"a whole word", 8, 8, 9, []api.Cell{{At: 1, Val: 9}, {At: 3, Val: 0xff}}},
		{"higher bits are cut off", 8, 1, 0xbbaa, []api.Cell{{At: 1, Val: 0x01020304050607aa}, {At: 3, Val: 0xff}}},
		{"higher bits of four bytes are cut off", 8, 4, 0xffffffff00000000, []api.Cell{{At: 1, Val: 0x0102030400000000}, {At: 3, Val: 0xff}}},
		{"as it was", 8, 4, 0x05060708, few},
		{"a new word at the beginning", 4, 4, 5, []api.Cell{{At: 0, Val: 5 << 32}, few[0], few[1]}},
		{"a new word between", 17, 1, 5, []api.Cell{few[0], {At: 2, Val: 5 << 8}, few[1]}},
		{"a new word side by side", 32, 8, all, []api.Cell{few[0], few[1], {At: 4, Val: all}}},
		{"a new word at the end", 4095, 1, 1, []api.Cell{few[0], few[1], {At: 511, Val: 1 << 56}}},
		{"two bytes at the end", 4094, 2, 0xabcd, []api.Cell{few[0], few[1], {At: 511, Val: 0xabcd << 48}}},
		{"a word that becomes 0", 8, 8, 0, few[1:]},
		{"the last word becomes 0", 24, 1, 0, few[:1]},
		{"a word that becomes 0 by bits that are cut off", 24, 1, 0x100, few[:1]},
		{"a byte becomes 0, its word doesn't", 8, 1, 0, []api.Cell{{At: 1, Val: 0x0102030405060700}, {At: 3, Val: 0xff}}},
		{"zeroes beside what isn't 0", 26, 2, 0, few},
		{"a word that was 0 stays so", 16, 8, 0, few},
		{"the beginning, that was 0, stays so", 0, 1, 0, few},
		{"the end, that was 0, stays so", 4088, 8, 0, few},
		{"what was 0 stays so by bits that are cut off", 4088, 2, 0x10000, few},
	} {
		m := api.Mem{Size: 4096, Cells: slices.Clone(few)}
		n, e := mem.Store(m, x.at, x.size, x.v)
		if want := (api.Mem{Size: 4096, Cells: x.cells}); e != api.OK || !same(n, want) {
			t.Errorf("%s: %x, %d, not %x", x.what, n, e, want)
		}
	}
}

// The chapter's example: four bytes at 4 are the high half of the word at 0.
func TestExample(t *testing.T) {
	m, _ := mem.New(4096)
	m, e := mem.Store(m, 4, 4, 0x12345678)
	if v, f := mem.Load(m, 0, 8); e != api.OK || f != api.OK || v != 0x1234567800000000 {
		t.Errorf("%#x, %d, %d", v, e, f)
	}
}

// P3.2: at the end of the greatest memory, too, bytes are stored and loaded.
func TestGreatest(t *testing.T) {
	m, _ := mem.New(most)
	for _, size := range sizes {
		at := most - uint64(size)
		n, e := mem.Store(m, at, size, all)
		if v, f := mem.Load(n, at, size); e != api.OK || f != api.OK || v != all>>(64-8*size) || !mem.Right(n) {
			t.Errorf("of %d bytes at %#x there is %#x, %d, %d", size, at, v, e, f)
		}
		if len(n.Cells) != 1 || n.Cells[0].At != most/8-1 || mem.Word(n, most) != 0 {
			t.Errorf("of %d bytes at %#x there is %v", size, at, n)
		}
		if n, e = mem.Store(m, most, size, all); e != api.ErrRange || !same(n, m) {
			t.Errorf("%d bytes at the Size: %v, %d", size, n, e)
		}
	}
	m, _ = mem.Store(m, most-8, 8, 1)
	m, _ = mem.Store(m, 0, 8, 1)
	if n := mem.Clear(m, 0, most); !same(n, api.Mem{Size: most}) {
		t.Errorf("cleared, it is %v", n)
	}
	if n := mem.Clear(m, 8, most-8); !same(n, api.Mem{Size: most, Cells: []api.Cell{{At: 0, Val: 1}}}) {
		t.Errorf("cleared from the second word on, it is %v", n)
	}
}

// P3.2: words are cleared: none of them, some, all.
func TestClear(t *testing.T) {
	was := some().Cells
	for _, x := range []struct {
		what     string
		at, many uint64
		cells    []api.Cell
	}{
		{"none at the beginning", 0, 0, was},
		{"none between", 24, 0, was},
		{"none at the end", 8192, 0, was},
		{"all", 0, 8192, nil},
		{"the first word", 0, 8, was[1:]},
		{"the second word", 8, 8, slices.Concat(was[:1], was[2:])},
		{"the two first", 0, 16, was[2:]},
		{"a word that is 0", 16, 8, was},
		{"words that are 0", 32, 4048, was},
		{"all but the first", 8, 8184, was[:1]},
		{"all but the last", 0, 8184, was[6:]},
		{"the last word", 8184, 8, was[:6]},
		{"the word before the last, that is 0", 8176, 8, was},
		{"the first page", 0, 4096, was[4:]},
		{"the second page", 4096, 4096, was[:4]},
		{"words on both sides of the pages' edge", 4088, 16, slices.Concat(was[:3], was[5:])},
		{"from between cells to between cells", 16, 4096, slices.Concat(was[:2], was[5:])},
	} {
		if n, want := mem.Clear(some(), x.at, x.many), (api.Mem{Size: 8192, Cells: x.cells}); !same(n, want) {
			t.Errorf("%s: %x, not %x", x.what, n, want)
		}
	}
	if n := mem.Clear(api.Mem{}, 0, 0); !same(n, api.Mem{}) {
		t.Errorf("of no bytes it is %v", n)
	}
	if n := mem.Clear(api.Mem{Size: 4096}, 0, 4096); !same(n, api.Mem{Size: 4096}) {
		t.Errorf("of an empty memory it is %v", n)
	}
}

// P3.2: what is cleared, from each word of a page on and as many words as may be, is 0, and nothing else is.
func TestClearEverywhere(t *testing.T) {
	m := api.Mem{Size: 4096, Cells: []api.Cell{{At: 0, Val: 1}, {At: 2, Val: 2}, {At: 3, Val: 3}, {At: 255, Val: 4}, {At: 510, Val: 5}, {At: 511, Val: 6}}}
	for from := uint64(0); from <= 512; from++ {
		for to := from; to <= 512; to++ {
			want := api.Mem{Size: 4096}
			for _, c := range m.Cells {
				if c.At < from || c.At >= to {
					want.Cells = append(want.Cells, c)
				}
			}
			if n := mem.Clear(m, from*8, (to-from)*8); !same(n, want) {
				t.Fatalf("Clear(%#x, %#x) is %v", from*8, (to-from)*8, n)
			}
		}
	}
}

// steps is a row of numbers that jumps about, the same each time.
func steps(seed uint64) func() uint64 {
	return func() uint64 {
		seed = seed*6364136223846793005 + 1442695040888963407
		return seed >> 17
	}
}

// P3.2, P3.3: a long row of stores and clears, each held against a memory that is told byte by byte.
func TestManySteps(t *testing.T) {
	next := steps(7)
	m, _ := mem.New(8192)
	h := holding(m)
	for i := range 4000 {
		// Few words, so that one is met often, the pages' edges among them.
		at := []uint64{0, 16, 4080, 4096, 8176}[next()%5] + next()%18
		size := sizes[next()%4]
		v := next() * next()
		if next()%3 == 0 {
			v <<= 32
		}
		if next()%4 == 0 {
			v = 0
		}
		if next()%8 == 0 {
			from := at &^ 7 % 8192
			many := min(next()%4*8, 8192-from)
			m = mem.Clear(m, from, many)
			h.clear(from, many)
		} else {
			want := h.refused(at, size)
			n, e := mem.Store(m, at, size, v)
			if e != want {
				t.Fatalf("step %d: Store(%#x, %d) is refused with %d, not %d", i, at, size, e, want)
			}
			if want == api.OK {
				h.store(at, size, v)
				if got, f := mem.Load(n, at, size); f != api.OK || got != h.load(at, size) {
					t.Fatalf("step %d: %#x, stored at %#x in %d bytes, is loaded as %#x, %d", i, v, at, size, got, f)
				}
			}
			m = n
		}
		if !mem.Right(m) || !same(m, h.laid()) {
			t.Fatalf("step %d: %x, not %x", i, m, h.laid())
		}
	}
}

// P3.3: what is stored is loaded, of each size at each place, and nothing beside it changes.
func TestStoredIsLoaded(t *testing.T) {
	const v = 0xf1e2d3c4b5a69788
	m := some()
	for _, from := range []uint64{0, 8, 16, 24, 4088, 4096, 5600, 8168, 8184} {
		for _, size := range sizes {
			for at := from; at < from+8; at += uint64(size) {
				n, e := mem.Store(m, at, size, v)
				if e != api.OK {
					t.Fatalf("Store(%#x, %d) is refused with %d", at, size, e)
				}
				for b := uint64(0); b < m.Size; b++ {
					want, _ := mem.Load(m, b, 1)
					if b >= at && b < at+uint64(size) {
						want = v >> (8 * (b - at)) & 0xff
					}
					if got, _ := mem.Load(n, b, 1); got != want {
						t.Fatalf("Store(%#x, %d): the byte at %#x is %#x, not %#x", at, size, b, got, want)
					}
				}
			}
		}
	}
}

// P3.3: memories that hold the same are the same, however it came to be there.
func TestSame(t *testing.T) {
	put := func(m api.Mem, at uint64, size int, v uint64) api.Mem {
		n, e := mem.Store(m, at, size, v)
		if e != api.OK {
			t.Fatalf("Store(%#x, %d) is refused with %d", at, size, e)
		}
		return n
	}
	empty, _ := mem.New(4096)
	a := put(put(empty, 0, 8, 0x0102030405060708), 4088, 8, 9)
	b := put(put(empty, 4088, 1, 9), 4, 4, 0x01020304)
	for i := range uint64(4) {
		b = put(b, i, 1, 8-i)
	}
	if !same(a, b) {
		t.Errorf("stored in another order and in parts: %x, %x", a, b)
	}
	// What is stored over and put back, or stored and cleared, is as if it had never been.
	c := put(put(put(put(a, 0, 4, 77), 0, 4, 0x05060708), 800, 2, 5), 800, 8, 0)
	if !same(a, c) {
		t.Errorf("stored over and put back: %x, %x", a, c)
	}
	if d := mem.Clear(put(put(a, 8, 8, 1), 16, 8, 2), 8, 16); !same(a, d) {
		t.Errorf("stored and cleared: %x, %x", a, d)
	}
	// Zeroes, stored byte by byte, are as what is cleared.
	z := a
	for at := range uint64(8) {
		z = put(z, at, 1, 0)
	}
	if !same(z, mem.Clear(a, 0, 8)) || !same(mem.Clear(z, 4088, 8), empty) {
		t.Errorf("zeroes: %x", z)
	}
}

// behind answers m with room behind its list's length, and that room, which is written full.
func behind(m api.Mem) (api.Mem, []api.Cell) {
	row := make([]api.Cell, len(m.Cells)+4)
	for i := range row {
		row[i] = api.Cell{At: 900 + uint64(i), Val: 0xee}
	}
	copy(row, m.Cells)
	return api.Mem{Size: m.Size, Cells: row[:len(m.Cells)]}, row
}

// calls are the calls that answer a memory: cells that come, change and go, stay as they are, or are refused.
func calls() map[string]func(m api.Mem) (api.Mem, api.Errno) {
	store := func(at uint64, size int, v uint64) func(m api.Mem) (api.Mem, api.Errno) {
		return func(m api.Mem) (api.Mem, api.Errno) { return mem.Store(m, at, size, v) }
	}
	clears := func(at, many uint64) func(m api.Mem) (api.Mem, api.Errno) {
		return func(m api.Mem) (api.Mem, api.Errno) { return mem.Clear(m, at, many), api.OK }
	}
	return map[string]func(m api.Mem) (api.Mem, api.Errno){
		"a new cell between":    store(16, 8, 1),
		"a new cell at the end": store(8168, 8, 1),
		"a cell changes":        store(0, 1, 1),
		"the last cell changes": store(8184, 4, 1),
		"a cell goes":           store(8, 8, 0),
		"the last cell goes":    store(8184, 8, 0),
		"nothing is stored":     store(16, 8, 0),
		"the same is stored":    store(24, 1, 0xff),
		"no size":               store(16, 3, 1),
		"no multiple":           store(17, 4, 1),
		"beyond the Size":       store(8192, 4, 1),
		"nothing is cleared":    clears(0, 0),
		"a 0 is cleared":        clears(16, 8),
		"the first is cleared":  clears(0, 8),
		"the last is cleared":   clears(8184, 8),
		"some are cleared":      clears(8, 4088),
		"all are cleared":       clears(0, 8192),
	}
}

// P3.4: what is handed in stays, the room behind its length included.
func TestHandedInStays(t *testing.T) {
	for what, call := range calls() {
		m, row := behind(some())
		was := slices.Clone(row)
		call(m)
		if !slices.Equal(row, was) {
			t.Errorf("%s: it left %x", what, row)
		}
	}
	m, row := behind(some())
	was := slices.Clone(row)
	mem.Load(m, 8, 4)
	mem.Load(m, 9, 4)
	mem.Word(m, 8191)
	mem.Word(m, 8192)
	mem.Right(m)
	if !slices.Equal(row, was) {
		t.Errorf("read, it is %x", row)
	}
}

// P3.4: what is answered is new memory: what is written into it, or behind it, is not seen in what was handed in, nor in another answer. Beside an error it is m.
func TestAnswersAreNew(t *testing.T) {
	scrawl := func(m api.Mem) {
		row := m.Cells[:cap(m.Cells)]
		for i := range row {
			row[i] = api.Cell{At: 77, Val: 77}
		}
	}
	for what, call := range calls() {
		m, row := behind(some())
		was := slices.Clone(row)
		n, e := call(m)
		if e != api.OK {
			if !same(n, m) {
				t.Errorf("%s: beside the error there is %x", what, n)
			}
			continue
		}
		other, _ := call(m)
		kept := clone(other)
		scrawl(n)
		if !slices.Equal(row, was) {
			t.Errorf("%s: what was handed in is %x", what, row)
		}
		if !same(other, kept) {
			t.Errorf("%s: another answer is %x", what, other)
		}
		if again, _ := call(m); !same(again, kept) {
			t.Errorf("%s: the next answer is %x", what, again)
		}
	}
	a, _ := mem.New(4096)
	b, _ := mem.New(4096)
	a.Cells = append(a.Cells, api.Cell{At: 1, Val: 1})
	if len(b.Cells) != 0 {
		t.Error("new memories share their cells")
	}
}

// P3.4: what was handed in is kept nowhere: when it has changed, answers that were given stay, and the next call sees it as it is.
func TestNothingIsKept(t *testing.T) {
	m := some()
	n, _ := mem.Store(m, 16, 8, 1)
	c := mem.Clear(m, 0, 8)
	first, then := clone(n), clone(c)
	for i := range m.Cells {
		m.Cells[i].Val = 0x55
	}
	if !same(n, first) || !same(c, then) {
		t.Errorf("answers changed: %x, %x", n, c)
	}
	if v, _ := mem.Load(m, 0, 8); v != 0x55 || mem.Word(m, 8) != 0x55 {
		t.Errorf("a word that changed is loaded as %#x", v)
	}
}

// Nil and empty lists are one, handed in.
func TestNilAndEmpty(t *testing.T) {
	none, empty := api.Mem{Size: 4096}, api.Mem{Size: 4096, Cells: []api.Cell{}}
	if mem.Right(none) != mem.Right(empty) || mem.Word(none, 0) != mem.Word(empty, 0) || !same(mem.Clear(none, 0, 8), mem.Clear(empty, 0, 8)) {
		t.Error("they are two")
	}
	a, e := mem.Store(none, 8, 8, 1)
	b, f := mem.Store(empty, 8, 8, 1)
	if e != f || !reflect.DeepEqual(a, b) {
		t.Errorf("stored into, they are %v, %v", a, b)
	}
}

// Every call ends and none panics, also of memories that aren't right and of what else the chapter promises nothing of.
func TestNoPanic(t *testing.T) {
	ends := []uint64{0, 1, 4, 8, 9, 16, 100, 4088, 4096, 8192, most, 1 << 61, 1 << 63, all - 7, all}
	for _, m := range []api.Mem{
		{},
		some(),
		{Size: 100, Cells: []api.Cell{{At: 11, Val: 1}, {At: 12, Val: 1}, {At: 13, Val: 1}}},
		{Size: all, Cells: []api.Cell{{At: 0, Val: 1}, {At: all, Val: 1}}},
		{Size: 4096, Cells: []api.Cell{{At: 9, Val: 1}, {At: 8, Val: 1}, {At: 1, Val: 1}, {At: 0, Val: 1}}},
		{Size: 4096, Cells: []api.Cell{{At: 1}, {At: 1, Val: 1}, {At: all, Val: 2}, {At: 1, Val: 3}}},
		{Size: 0, Cells: []api.Cell{{At: 0, Val: 1}}},
	} {
		mem.Right(m)
		for _, at := range ends {
			mem.Word(m, at)
			for _, size := range []int{math.MinInt, -8, -1, 0, 1, 2, 3, 4, 8, 16, math.MaxInt} {
				mem.Load(m, at, size)
				mem.Store(m, at, size, all)
			}
			for _, many := range ends {
				mem.Clear(m, at, many)
			}
		}
	}
}
