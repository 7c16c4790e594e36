package pool_test

import (
	"math"
	"testing"

	"atlas/api"
	"atlas/pool"
)

const (
	all  = ^uint64(0)
	most = 1 << 28
)

// bases are the least and the greatest that may be, and some between.
var bases = []uint64{0, 1, 10, 4096, 1<<19 + 5, most - 1, most}

// held is a pool told frame by frame: which there are, and of each whether it is free.
type held struct {
	base uint64
	free []bool
}

func holding(p api.Pool) held {
	h := held{base: p.Base}
	for i := range p.Many {
		h.free = append(h.free, p.Free>>i&1 == 1)
	}
	return h
}

// laid tells the pool that holds those frames.
func (h held) laid() api.Pool {
	p := api.Pool{Base: h.base, Many: len(h.free)}
	for i := range h.free {
		if h.free[i] {
			p.Free += 1 << i
		}
	}
	return p
}

// place tells which of the frames that is, or -1, if it is none of them.
func (h held) place(frame uint64) int {
	for i := range h.free {
		if h.base+uint64(i) == frame {
			return i
		}
	}
	return -1
}

func (h held) is(frame uint64) bool {
	i := h.place(frame)
	return i >= 0 && !h.free[i]
}

func (h held) many() (n int) {
	for _, free := range h.free {
		if free {
			n++
		}
	}
	return n
}

// take tells the pool without its least free frame, and that frame.
func (h held) take() (api.Pool, uint64, api.Errno) {
	for i, free := range h.free {
		if free {
			h.free[i] = false
			return h.laid(), h.base + uint64(i), api.OK
		}
	}
	return h.laid(), 0, api.ErrFrames
}

// give tells the pool in which that frame is free, too.
func (h held) give(frame uint64) (api.Pool, api.Errno) {
	if !h.is(frame) {
		return h.laid(), api.ErrArg
	}
	h.free[h.place(frame)] = true
	return h.laid(), api.OK
}

// eachPool goes through all small pools, and through great ones of none free, of all, and of some, at many Bases.
func eachPool(see func(p api.Pool)) {
	for _, base := range bases {
		for many := range 7 {
			for free := range uint64(1) << many {
				see(api.Pool{Base: base, Many: many, Free: free})
			}
		}
		for _, many := range []int{31, 32, 33, 62, 63, 64} {
			full := all >> (64 - many)
			for _, free := range []uint64{0, 1, 2, 1 << 30, 3 << 29, 1 << (many - 1), 3 << (many - 2), 0x5555555555555555, 0xaaaaaaaaaaaaaaaa, 0x123456789abcdef0, all >> 1, all - 1, all} {
				see(api.Pool{Base: base, Many: many, Free: free & full})
			}
		}
	}
}

// near are the frames of a pool, those around them, and some that are far off.
func near(p api.Pool) []uint64 {
	frames := []uint64{0, 1, most, most + 63, 1 << 32, 1<<32 + p.Base, 1 << 63, 1<<63 + p.Base, all - 63, all - 1, all}
	for f := p.Base - 3; f != p.Base+67; f++ {
		frames = append(frames, f)
	}
	return frames
}

// P4.1: a pool is new and its frames are all free; of what may not be there is a zero one and ErrArg.
func TestNew(t *testing.T) {
	for _, x := range []struct {
		base uint64
		many int
		free uint64
		want api.Errno
	}{
		{10, 2, 3, api.OK},
		{4, 8, 0xff, api.OK},
		{1 << 19, 63, all >> 1, api.OK},
		// of no frames, of one and of 64
		{0, 0, 0, api.OK},
		{7, 0, 0, api.OK},
		{0, 1, 1, api.OK},
		{9, 1, 1, api.OK},
		{0, 64, all, api.OK},
		{5, 64, all, api.OK},
		// the greatest Base, and one less and more
		{most - 1, 3, 7, api.OK},
		{most, 0, 0, api.OK},
		{most, 1, 1, api.OK},
		{most, 64, all, api.OK},
		{most + 1, 0, 0, api.ErrArg},
		{most + 1, 1, 0, api.ErrArg},
		{most + 1, 64, 0, api.ErrArg},
		{1 << 29, 1, 0, api.ErrArg},
		{1 << 32, 1, 0, api.ErrArg},
		{1 << 63, 1, 0, api.ErrArg},
		{all, 1, 0, api.ErrArg},
		{all - 63, 64, 0, api.ErrArg},
		// too many, and fewer than none
		{0, 65, 0, api.ErrArg},
		{5, 128, 0, api.ErrArg},
		{5, 1 << 32, 0, api.ErrArg},
		{5, 1<<32 + 1, 0, api.ErrArg},
		{5, math.MaxInt, 0, api.ErrArg},
		{0, -1, 0, api.ErrArg},
		{5, -64, 0, api.ErrArg},
		{5, math.MinInt, 0, api.ErrArg},
		{5, math.MinInt + 1, 0, api.ErrArg},
		// both
		{most + 1, 65, 0, api.ErrArg},
		{all, -1, 0, api.ErrArg},
	} {
		want := api.Pool{}
		if x.want == api.OK {
			want = api.Pool{Base: x.base, Many: x.many, Free: x.free}
		}
		if p, e := pool.New(x.base, x.many); p != want || e != x.want {
			t.Errorf("New(%#x, %d) is %+v, %d, not %+v, %d", x.base, x.many, p, e, want, x.want)
		}
	}
}

// P4.1: a new pool is right, and has as many free frames as were asked for, none of which may be given.
func TestNewOfAllCounts(t *testing.T) {
	for _, base := range bases {
		for many := -70; many <= 140; many++ {
			p, e := pool.New(base, many)
			if many < 0 || many > 64 {
				if p != (api.Pool{}) || e != api.ErrArg {
					t.Errorf("New(%#x, %d) is %+v, %d", base, many, p, e)
				}
				continue
			}
			if e != api.OK || p.Base != base || p.Many != many || pool.Free(p) != many || !pool.Right(p) {
				t.Errorf("New(%#x, %d) is %+v, %d", base, many, p, e)
			}
			for _, f := range near(p) {
				if pool.Is(p, f) {
					t.Errorf("New(%#x, %d) has the frame %#x taken", base, many, f)
				}
			}
		}
	}
}

// P4.1: which pools are right.
func TestRight(t *testing.T) {
	for _, x := range []struct {
		p    api.Pool
		want bool
	}{
		{api.Pool{}, true},
		{api.Pool{Base: 10, Many: 2, Free: 3}, true},
		{api.Pool{Base: 10, Many: 2, Free: 0}, true},
		{api.Pool{Base: 10, Many: 1, Free: 1}, true},
		{api.Pool{Base: 10, Many: 64, Free: all}, true},
		{api.Pool{Base: 10, Many: 64, Free: 1 << 63}, true},
		{api.Pool{Base: 10, Many: 64}, true},
		// the Base
		{api.Pool{Base: most, Many: 64, Free: all}, true},
		{api.Pool{Base: most}, true},
		{api.Pool{Base: most + 1, Many: 64, Free: all}, false},
		{api.Pool{Base: most + 1}, false},
		{api.Pool{Base: 1 << 29, Many: 1}, false},
		{api.Pool{Base: 1 << 32, Many: 1}, false},
		{api.Pool{Base: 1 << 63, Many: 1}, false},
		{api.Pool{Base: all, Many: 1}, false},
		// Many
		{api.Pool{Many: 65}, false},
		{api.Pool{Many: 65, Free: all}, false},
		{api.Pool{Many: 128, Free: 1}, false},
		{api.Pool{Many: 1 << 32}, false},
		{api.Pool{Many: math.MaxInt}, false},
		{api.Pool{Many: -1}, false},
		{api.Pool{Many: -1, Free: 1}, false},
		{api.Pool{Many: -64}, false},
		{api.Pool{Many: math.MinInt}, false},
		// a bit of Free at Many, and at the bit above all frames
		{api.Pool{Many: 0, Free: 1}, false},
		{api.Pool{Many: 0, Free: 1 << 63}, false},
		{api.Pool{Many: 1, Free: 2}, false},
		{api.Pool{Many: 3, Free: 8}, false},
		{api.Pool{Many: 3, Free: 15}, false},
		{api.Pool{Many: 4, Free: 8}, true},
		{api.Pool{Many: 3, Free: 16}, false},
		{api.Pool{Many: 3, Free: 1 << 63}, false},
		{api.Pool{Many: 3, Free: all}, false},
		{api.Pool{Many: 63, Free: 1 << 62}, true},
		{api.Pool{Many: 63, Free: 1 << 63}, false},
		{api.Pool{Many: 63, Free: all}, false},
	} {
		if v := pool.Right(x.p); v != x.want {
			t.Errorf("Right(%+v) is %v", x.p, v)
		}
	}
}

// P4.1: a bit of Free is right below Many, and from Many on wrong, each bit at each count.
func TestRightOfAllBits(t *testing.T) {
	for many := range 65 {
		for i := range 64 {
			low := uint64(1)<<many - 1
			for _, free := range []uint64{1 << i, low | 1<<i} {
				p := api.Pool{Base: 3, Many: many, Free: free}
				if v := pool.Right(p); v != (i < many) {
					t.Errorf("Right(%+v) is %v", p, v)
				}
			}
		}
	}
}

// P4.1: how many are free.
func TestFree(t *testing.T) {
	for _, x := range []struct {
		p    api.Pool
		want int
	}{
		{api.Pool{}, 0},
		{api.Pool{Base: 7}, 0},
		{api.Pool{Base: 7, Many: 1}, 0},
		{api.Pool{Base: 7, Many: 1, Free: 1}, 1},
		{api.Pool{Base: 7, Many: 8, Free: 0xa5}, 4},
		{api.Pool{Base: 7, Many: 64}, 0},
		{api.Pool{Base: 7, Many: 64, Free: 1 << 63}, 1},
		{api.Pool{Base: 7, Many: 64, Free: all - 1}, 63},
		{api.Pool{Base: 7, Many: 64, Free: all}, 64},
	} {
		if n := pool.Free(x.p); n != x.want {
			t.Errorf("Free(%+v) is %d, not %d", x.p, n, x.want)
		}
	}
	eachPool(func(p api.Pool) {
		if n, want := pool.Free(p), holding(p).many(); n != want {
			t.Fatalf("Free(%+v) is %d, not %d", p, n, want)
		}
	})
}

// P4.1: a pool's frame that isn't free, and no other frame, is one.
func TestIs(t *testing.T) {
	p := api.Pool{Base: 10, Many: 4, Free: 0b0101}
	for _, x := range []struct {
		p     api.Pool
		frame uint64
		want  bool
	}{
		{p, 10, false},
		{p, 11, true},
		{p, 12, false},
		{p, 13, true},
		// the frames just below the Base and just behind the last
		{p, 9, false},
		{p, 14, false},
		{api.Pool{Base: 10, Many: 4}, 9, false},
		{api.Pool{Base: 10, Many: 4}, 14, false},
		{api.Pool{Base: most, Many: 64}, most - 1, false},
		{api.Pool{Base: most, Many: 64}, most, true},
		{api.Pool{Base: most, Many: 64}, most + 63, true},
		{api.Pool{Base: most, Many: 64}, most + 64, false},
		{api.Pool{Many: 64}, all, false},
		{api.Pool{Many: 64}, 63, true},
		{api.Pool{Many: 64}, 64, false},
		// of no frames
		{api.Pool{Base: 10}, 9, false},
		{api.Pool{Base: 10}, 10, false},
		{api.Pool{Base: 10}, 11, false},
		// far off
		{p, 0, false},
		{p, 1, false},
		{p, 1<<32 + 11, false},
		{p, 1<<63 + 11, false},
		{p, 64 + 11, false},
		{p, all, false},
	} {
		if v := pool.Is(x.p, x.frame); v != x.want {
			t.Errorf("Is(%+v, %#x) is %v", x.p, x.frame, v)
		}
	}
	eachPool(func(p api.Pool) {
		h := holding(p)
		for _, f := range near(p) {
			if v := pool.Is(p, f); v != h.is(f) {
				t.Fatalf("Is(%+v, %#x) is %v", p, f, v)
			}
		}
	})
}

// P4.2: the least free frame is taken, and no other; where none is free, there is the pool as it was, 0 and ErrFrames.
func TestTake(t *testing.T) {
	for _, x := range []struct {
		p     api.Pool
		free  uint64
		frame uint64
		want  api.Errno
	}{
		{api.Pool{Base: 10, Many: 2, Free: 3}, 2, 10, api.OK},
		{api.Pool{Base: 10, Many: 2, Free: 2}, 0, 11, api.OK},
		{api.Pool{Base: 10, Many: 2}, 0, 0, api.ErrFrames},
		{api.Pool{Base: 10, Many: 8, Free: 0b10110100}, 0b10110000, 12, api.OK},
		{api.Pool{Many: 1, Free: 1}, 0, 0, api.OK},
		{api.Pool{Many: 1}, 0, 0, api.ErrFrames},
		{api.Pool{}, 0, 0, api.ErrFrames},
		{api.Pool{Base: most}, 0, 0, api.ErrFrames},
		{api.Pool{Base: most, Many: 64, Free: all}, all - 1, most, api.OK},
		{api.Pool{Base: most, Many: 64, Free: 1 << 63}, 0, most + 63, api.OK},
		{api.Pool{Base: most, Many: 64, Free: 3 << 62}, 1 << 63, most + 62, api.OK},
		{api.Pool{Base: most, Many: 64}, 0, 0, api.ErrFrames},
	} {
		want := api.Pool{Base: x.p.Base, Many: x.p.Many, Free: x.free}
		if p, f, e := pool.Take(x.p); p != want || f != x.frame || e != x.want {
			t.Errorf("Take(%+v) is %+v, %#x, %d, not %+v, %#x, %d", x.p, p, f, e, want, x.frame, x.want)
		}
	}
	eachPool(func(p api.Pool) {
		want, frame, err := holding(p).take()
		if q, f, e := pool.Take(p); q != want || f != frame || e != err {
			t.Fatalf("Take(%+v) is %+v, %#x, %d, not %+v, %#x, %d", p, q, f, e, want, frame, err)
		}
	})
}

// P4.2: a frame is given back, and no other; where it isn't the pool's, or is free, there is the pool as it was and ErrArg.
func TestGive(t *testing.T) {
	p := api.Pool{Base: 10, Many: 4, Free: 0b0101}
	for _, x := range []struct {
		p     api.Pool
		frame uint64
		free  uint64
		want  api.Errno
	}{
		{p, 11, 0b0111, api.OK},
		{p, 13, 0b1101, api.OK},
		{p, 10, 0b0101, api.ErrArg},
		{p, 12, 0b0101, api.ErrArg},
		// the frames just below the Base and just behind the last
		{p, 9, 0b0101, api.ErrArg},
		{p, 14, 0b0101, api.ErrArg},
		{api.Pool{Base: most, Many: 64}, most - 1, 0, api.ErrArg},
		{api.Pool{Base: most, Many: 64}, most, 1, api.OK},
		{api.Pool{Base: most, Many: 64}, most + 63, 1 << 63, api.OK},
		{api.Pool{Base: most, Many: 64}, most + 64, 0, api.ErrArg},
		{api.Pool{Many: 64, Free: all - 1}, 0, all, api.OK},
		{api.Pool{Many: 64, Free: all - 1}, all, all - 1, api.ErrArg},
		// of which all are free, and of no frames
		{api.Pool{Many: 64, Free: all}, 5, all, api.ErrArg},
		{api.Pool{}, 0, 0, api.ErrArg},
		{api.Pool{Base: most}, most, 0, api.ErrArg},
		// far off
		{p, 0, 0b0101, api.ErrArg},
		{p, 64 + 11, 0b0101, api.ErrArg},
		{p, 1<<63 + 11, 0b0101, api.ErrArg},
		{p, all, 0b0101, api.ErrArg},
	} {
		want := api.Pool{Base: x.p.Base, Many: x.p.Many, Free: x.free}
		if q, e := pool.Give(x.p, x.frame); q != want || e != x.want {
			t.Errorf("Give(%+v, %#x) is %+v, %d, not %+v, %d", x.p, x.frame, q, e, want, x.want)
		}
	}
	eachPool(func(p api.Pool) {
		for _, f := range near(p) {
			want, err := holding(p).give(f)
			if q, e := pool.Give(p, f); q != want || e != err {
				t.Fatalf("Give(%+v, %#x) is %+v, %d, not %+v, %d", p, f, q, e, want, err)
			}
		}
	})
}

// P4.2: what is given back twice is refused the second time.
func TestGiveTwice(t *testing.T) {
	eachPool(func(p api.Pool) {
		for i := range p.Many {
			f := p.Base + uint64(i)
			q, _ := pool.Give(p, f)
			if r, e := pool.Give(q, f); r != q || e != api.ErrArg || pool.Is(q, f) {
				t.Fatalf("%#x, given twice to %+v, is %+v, %d", f, p, r, e)
			}
		}
	})
}

// P4.3: what is taken, and given back, leaves the pool as it was.
func TestTakenAndGivenBack(t *testing.T) {
	eachPool(func(p api.Pool) {
		q, f, e := pool.Take(p)
		if e != api.OK {
			return
		}
		if !pool.Is(q, f) || pool.Free(q) != pool.Free(p)-1 || !pool.Right(q) {
			t.Fatalf("Take(%+v) is %+v, %#x", p, q, f)
		}
		if r, e := pool.Give(q, f); r != p || e != api.OK {
			t.Fatalf("%#x, taken from %+v and given back, leaves %+v, %d", f, p, r, e)
		}
	})
}

// P4.3: also when all are taken, and given back in other orders: from each frame on, rising and falling.
func TestAllTakenAndGivenBack(t *testing.T) {
	eachPool(func(p api.Pool) {
		q, taken := p, []uint64(nil)
		for i := range holding(p).free {
			if p.Free>>i&1 == 0 {
				continue
			}
			r, f, e := pool.Take(q)
			if e != api.OK || f != p.Base+uint64(i) {
				t.Fatalf("Take(%+v) is %#x, %d", q, f, e)
			}
			q, taken = r, append(taken, f)
		}
		if r, f, e := pool.Take(q); r != q || f != 0 || e != api.ErrFrames || pool.Free(q) != 0 {
			t.Fatalf("Take of what is left of %+v is %+v, %#x, %d", p, r, f, e)
		}
		for first := range taken {
			for _, step := range []int{1, len(taken) - 1} {
				r := q
				for i := range taken {
					r, _ = pool.Give(r, taken[(first+i*step)%len(taken)])
				}
				if r != p {
					t.Fatalf("all of %+v, given back, leave %+v", p, r)
				}
			}
		}
	})
}

// The example of the chapter.
func TestExample(t *testing.T) {
	p, e := pool.New(10, 2)
	if e != api.OK {
		t.Fatal("New:", e)
	}
	p, first, e := pool.Take(p)
	if first != 10 || e != api.OK {
		t.Error("the first is", first, e)
	}
	p, second, e := pool.Take(p)
	if second != 11 || e != api.OK {
		t.Error("the second is", second, e)
	}
	if _, third, e := pool.Take(p); third != 0 || e != api.ErrFrames {
		t.Error("the third is", third, e)
	}
}

// No call panics, and each ends, also at pools that aren't right, where nothing is promised of what it answers.
func TestNoPanic(t *testing.T) {
	for _, many := range []int{math.MinInt, math.MinInt + 1, -65, -64, -1, 0, 1, 64, 65, 128, math.MaxInt - 1, math.MaxInt} {
		for _, base := range []uint64{0, 1, most, most + 1, 1 << 63, all - 64, all} {
			for _, free := range []uint64{0, 1, 2, 1 << 63, all} {
				p := api.Pool{Base: base, Many: many, Free: free}
				pool.Right(p)
				pool.Free(p)
				pool.Take(p)
				for _, f := range []uint64{0, 1, base - 1, base, base + 1, base + 63, base + 64, base + 65, 1 << 63, all} {
					pool.Is(p, f)
					pool.Give(p, f)
				}
			}
		}
	}
}
