package asid_test

import (
	"math"
	"testing"

	"atlas/api"
	"atlas/asid"
)

const all = ^uint64(0)

// told is what is told of one number.
type told struct {
	free, owned bool
}

// numbers are told one by one, the number 1 first.
type numbers []told

func holding(a api.Asids) (s numbers) {
	for i := range a.Many {
		s = append(s, told{a.Free>>i&1 == 1, a.Owned>>i&1 == 1})
	}
	return s
}

// laid tells the numbers as they are handed in and answered.
func (s numbers) laid() api.Asids {
	a := api.Asids{Many: len(s)}
	for i := range s {
		if s[i].free {
			a.Free += 1 << i
		}
		if s[i].owned {
			a.Owned += 1 << i
		}
	}
	return a
}

func (s numbers) many() (n int) {
	for _, x := range s {
		if x.free {
			n++
		}
	}
	return n
}

// take tells the numbers without the least free one, that one, and whether it was owned.
func (s numbers) take() (api.Asids, uint64, bool, api.Errno) {
	for i, x := range s {
		if x.free {
			s[i] = told{free: false, owned: true}
			return s.laid(), uint64(i + 1), x.owned, api.OK
		}
	}
	return s.laid(), 0, false, api.ErrAsids
}

// give tells the numbers of which n is free, too.
func (s numbers) give(n uint64) (api.Asids, api.Errno) {
	for i := range s {
		if uint64(i+1) == n && !s[i].free {
			s[i].free = true
			return s.laid(), api.OK
		}
	}
	return s.laid(), api.ErrArg
}

// eachNumbers goes through all of up to 5 numbers, and through those of more, of none free or owned, of all, and of some.
func eachNumbers(see func(a api.Asids)) {
	for many := 1; many <= 5; many++ {
		for free := range uint64(1) << many {
			for owned := range uint64(1) << many {
				see(api.Asids{Many: many, Free: free, Owned: owned})
			}
		}
	}
	for many := 6; many <= 16; many++ {
		full := all >> (64 - many)
		some := []uint64{0, 1, 2, 3, 0b101100, 1 << (many - 1), 3 << (many - 2), 0x5555 & full, 0xaaaa & full, 0x1234 & full, full >> 1, full - 1, full}
		for _, free := range some {
			for _, owned := range some {
				see(api.Asids{Many: many, Free: free & full, Owned: owned & full})
			}
		}
	}
}

// near are all numbers that may be, those around them, and some that are far off.
func near() []uint64 {
	list := []uint64{31, 32, 33, 63, 64, 65, 66, 128, 129, 1 << 16, 1<<16 + 1, 1 << 32, 1<<32 + 1, 1<<32 + 3, 1<<63 - 1, 1 << 63, 1<<63 + 1, 1<<63 + 3, all - 63, all - 1, all}
	for n := range uint64(20) {
		list = append(list, n)
	}
	return list
}

// taking tells what Take answers, and that it was so.
func taking(t *testing.T, a api.Asids, n uint64, owned bool) api.Asids {
	t.Helper()
	b, x, o, e := asid.Take(a)
	if x != n || o != owned || e != api.OK {
		t.Fatalf("Take(%+v) is %d, %v, %d, not %d, %v", a, x, o, e, n, owned)
	}
	return b
}

// giving tells what Give answers, and that it was so.
func giving(t *testing.T, a api.Asids, n uint64) api.Asids {
	t.Helper()
	b, e := asid.Give(a, n)
	if e != api.OK {
		t.Fatalf("Give(%+v, %d) is %d", a, n, e)
	}
	return b
}

// P18.1: new numbers are all free and none owned; of what may not be there are zero ones and ErrArg.
func TestNew(t *testing.T) {
	for _, x := range []struct {
		many int
		want api.Asids
		err  api.Errno
	}{
		{1, api.Asids{Many: 1, Free: 1}, api.OK},
		{2, api.Asids{Many: 2, Free: 3}, api.OK},
		{3, api.Asids{Many: 3, Free: 7}, api.OK},
		{8, api.Asids{Many: 8, Free: 0xff}, api.OK},
		{15, api.Asids{Many: 15, Free: 0x7fff}, api.OK},
		{16, api.Asids{Many: 16, Free: 0xffff}, api.OK},
		{0, api.Asids{}, api.ErrArg},
		{17, api.Asids{}, api.ErrArg},
		{18, api.Asids{}, api.ErrArg},
		{63, api.Asids{}, api.ErrArg},
		{64, api.Asids{}, api.ErrArg},
		{65, api.Asids{}, api.ErrArg},
		{1 << 16, api.Asids{}, api.ErrArg},
		{1 << 32, api.Asids{}, api.ErrArg},
		{1<<32 + 1, api.Asids{}, api.ErrArg},
		{math.MaxInt, api.Asids{}, api.ErrArg},
		{math.MaxInt - 1, api.Asids{}, api.ErrArg},
		{-1, api.Asids{}, api.ErrArg},
		{-2, api.Asids{}, api.ErrArg},
		{-16, api.Asids{}, api.ErrArg},
		{-1 << 32, api.Asids{}, api.ErrArg},
		{math.MinInt, api.Asids{}, api.ErrArg},
		{math.MinInt + 1, api.Asids{}, api.ErrArg},
		{math.MinInt + 16, api.Asids{}, api.ErrArg},
	} {
		if a, e := asid.New(x.many); a != x.want || e != x.err {
			t.Errorf("New(%d) is %+v, %d, not %+v, %d", x.many, a, e, x.want, x.err)
		}
	}
}

// P18.1: new numbers are right, as many are free as were asked for, and none of them may be given.
func TestNewOfAllCounts(t *testing.T) {
	for many := -70; many <= 140; many++ {
		a, e := asid.New(many)
		if many < 1 || many > 16 {
			if a != (api.Asids{}) || e != api.ErrArg {
				t.Errorf("New(%d) is %+v, %d", many, a, e)
			}
			continue
		}
		if e != api.OK || a.Many != many || a.Owned != 0 || asid.Free(a) != many || !asid.Right(a) {
			t.Errorf("New(%d) is %+v, %d", many, a, e)
		}
		for _, n := range near() {
			if b, e := asid.Give(a, n); b != a || e != api.ErrArg {
				t.Errorf("New(%d), given %d, is %+v, %d", many, n, b, e)
			}
		}
	}
}

// P18.1: which numbers are right.
func TestRight(t *testing.T) {
	for _, x := range []struct {
		a    api.Asids
		want bool
	}{
		{api.Asids{Many: 1}, true},
		{api.Asids{Many: 1, Free: 1}, true},
		{api.Asids{Many: 16}, true},
		{api.Asids{Many: 16, Free: 0xffff}, true},
		{api.Asids{Many: 16, Owned: 0xffff}, true},
		{api.Asids{Many: 16, Free: 0xffff, Owned: 0xffff}, true},
		{api.Asids{Many: 16, Free: 1 << 15, Owned: 1 << 15}, true},
		// owned and free, owned and not free, free and not owned, neither
		{api.Asids{Many: 4, Free: 0b0100, Owned: 0b0100}, true},
		{api.Asids{Many: 4, Free: 0b0000, Owned: 0b0100}, true},
		{api.Asids{Many: 4, Free: 0b0100, Owned: 0b0000}, true},
		{api.Asids{Many: 4, Free: 0b0000, Owned: 0b0000}, true},
		{api.Asids{Many: 4, Free: 0b1010, Owned: 0b1100}, true},
		// Many
		{api.Asids{}, false},
		{api.Asids{Free: 1}, false},
		{api.Asids{Owned: 1}, false},
		{api.Asids{Many: 17}, false},
		{api.Asids{Many: 17, Free: 1, Owned: 1}, false},
		{api.Asids{Many: 17, Free: 1 << 16}, false},
		{api.Asids{Many: 64}, false},
		{api.Asids{Many: 64, Free: all, Owned: all}, false},
		{api.Asids{Many: 65, Free: 1}, false},
		{api.Asids{Many: 1 << 32}, false},
		{api.Asids{Many: 1<<32 + 1}, false},
		{api.Asids{Many: math.MaxInt}, false},
		{api.Asids{Many: -1}, false},
		{api.Asids{Many: -1, Free: 1, Owned: 1}, false},
		{api.Asids{Many: -16}, false},
		{api.Asids{Many: math.MinInt}, false},
		{api.Asids{Many: math.MinInt + 1}, false},
		// the bit Many, and the highest one
		{api.Asids{Many: 1, Free: 2}, false},
		{api.Asids{Many: 1, Owned: 2}, false},
		{api.Asids{Many: 1, Free: 3}, false},
		{api.Asids{Many: 2, Free: 4}, false},
		{api.Asids{Many: 2, Owned: 4}, false},
		{api.Asids{Many: 2, Free: 4, Owned: 4}, false},
		{api.Asids{Many: 3, Free: 4, Owned: 4}, true},
		{api.Asids{Many: 3, Free: 1 << 63}, false},
		{api.Asids{Many: 3, Owned: 1 << 63}, false},
		{api.Asids{Many: 15, Free: 1 << 15}, false},
		{api.Asids{Many: 15, Owned: 1 << 15}, false},
		{api.Asids{Many: 16, Free: 1 << 16}, false},
		{api.Asids{Many: 16, Owned: 1 << 16}, false},
		{api.Asids{Many: 16, Free: 1 << 63}, false},
		{api.Asids{Many: 16, Owned: 1 << 63}, false},
		{api.Asids{Many: 16, Free: all, Owned: 0xffff}, false},
		{api.Asids{Many: 16, Free: 0xffff, Owned: all}, false},
	} {
		if v := asid.Right(x.a); v != x.want {
			t.Errorf("Right(%+v) is %v", x.a, v)
		}
	}
}

// P18.1: a bit is right below Many, and from Many on wrong, each bit of each at each count.
func TestRightOfAllBits(t *testing.T) {
	for many := 1; many <= 16; many++ {
		low := uint64(1)<<many - 1
		for i := range 64 {
			bit := uint64(1) << i
			for _, a := range []api.Asids{
				{Many: many, Free: bit},
				{Many: many, Owned: bit},
				{Many: many, Free: bit, Owned: bit},
				{Many: many, Free: low | bit},
				{Many: many, Owned: low | bit},
				{Many: many, Free: low, Owned: bit},
				{Many: many, Free: bit, Owned: low},
				{Many: many, Free: low | bit, Owned: low | bit},
			} {
				if v := asid.Right(a); v != (i < many) {
					t.Errorf("Right(%+v) is %v", a, v)
				}
			}
		}
	}
}

// P18.1: how many are free, whichever are owned.
func TestFree(t *testing.T) {
	for _, x := range []struct {
		a    api.Asids
		want int
	}{
		{api.Asids{Many: 1}, 0},
		{api.Asids{Many: 1, Owned: 1}, 0},
		{api.Asids{Many: 1, Free: 1}, 1},
		{api.Asids{Many: 1, Free: 1, Owned: 1}, 1},
		{api.Asids{Many: 8, Free: 0xa5, Owned: 0x0f}, 4},
		{api.Asids{Many: 16}, 0},
		{api.Asids{Many: 16, Owned: 0xffff}, 0},
		{api.Asids{Many: 16, Free: 1 << 15}, 1},
		{api.Asids{Many: 16, Free: 0x0400, Owned: 0xffff}, 1},
		{api.Asids{Many: 16, Free: 0xfffe}, 15},
		{api.Asids{Many: 16, Free: 0xffff}, 16},
		{api.Asids{Many: 16, Free: 0xffff, Owned: 0xffff}, 16},
	} {
		if n := asid.Free(x.a); n != x.want {
			t.Errorf("Free(%+v) is %d, not %d", x.a, n, x.want)
		}
	}
	eachNumbers(func(a api.Asids) {
		if n, want := asid.Free(a), holding(a).many(); n != want {
			t.Fatalf("Free(%+v) is %d, not %d", a, n, want)
		}
	})
}

// P18.2: the least free number is taken, and no other, and is owned then; where none is free, there are the numbers as they were, 0, false and ErrAsids.
func TestTake(t *testing.T) {
	for _, x := range []struct {
		a     api.Asids
		want  api.Asids
		n     uint64
		owned bool
		err   api.Errno
	}{
		// of the lowest, never owned and owned
		{api.Asids{Many: 2, Free: 3}, api.Asids{Many: 2, Free: 2, Owned: 1}, 1, false, api.OK},
		{api.Asids{Many: 2, Free: 3, Owned: 1}, api.Asids{Many: 2, Free: 2, Owned: 1}, 1, true, api.OK},
		{api.Asids{Many: 2, Free: 3, Owned: 2}, api.Asids{Many: 2, Free: 2, Owned: 3}, 1, false, api.OK},
		{api.Asids{Many: 2, Free: 3, Owned: 3}, api.Asids{Many: 2, Free: 2, Owned: 3}, 1, true, api.OK},
		// where the lowest are taken
		{api.Asids{Many: 4, Free: 0b1100, Owned: 0b0011}, api.Asids{Many: 4, Free: 0b1000, Owned: 0b0111}, 3, false, api.OK},
		{api.Asids{Many: 4, Free: 0b1100, Owned: 0b0111}, api.Asids{Many: 4, Free: 0b1000, Owned: 0b0111}, 3, true, api.OK},
		// where one in the midst was given back
		{api.Asids{Many: 8, Free: 0b11000100, Owned: 0b00111111}, api.Asids{Many: 8, Free: 0b11000000, Owned: 0b00111111}, 3, true, api.OK},
		// of one that is taken, though it is not owned
		{api.Asids{Many: 4, Free: 0b1010}, api.Asids{Many: 4, Free: 0b1000, Owned: 0b0010}, 2, false, api.OK},
		// of the last
		{api.Asids{Many: 1, Free: 1}, api.Asids{Many: 1, Owned: 1}, 1, false, api.OK},
		{api.Asids{Many: 16, Free: 1 << 15, Owned: 0x7fff}, api.Asids{Many: 16, Owned: 0xffff}, 16, false, api.OK},
		{api.Asids{Many: 16, Free: 1 << 15, Owned: 1 << 15}, api.Asids{Many: 16, Owned: 1 << 15}, 16, true, api.OK},
		{api.Asids{Many: 16, Free: 0xffff}, api.Asids{Many: 16, Free: 0xfffe, Owned: 1}, 1, false, api.OK},
		// of none
		{api.Asids{Many: 1}, api.Asids{Many: 1}, 0, false, api.ErrAsids},
		{api.Asids{Many: 1, Owned: 1}, api.Asids{Many: 1, Owned: 1}, 0, false, api.ErrAsids},
		{api.Asids{Many: 16}, api.Asids{Many: 16}, 0, false, api.ErrAsids},
		{api.Asids{Many: 16, Owned: 0x8001}, api.Asids{Many: 16, Owned: 0x8001}, 0, false, api.ErrAsids},
		{api.Asids{Many: 16, Owned: 0xffff}, api.Asids{Many: 16, Owned: 0xffff}, 0, false, api.ErrAsids},
	} {
		if b, n, owned, e := asid.Take(x.a); b != x.want || n != x.n || owned != x.owned || e != x.err {
			t.Errorf("Take(%+v) is %+v, %d, %v, %d, not %+v, %d, %v, %d", x.a, b, n, owned, e, x.want, x.n, x.owned, x.err)
		}
	}
	eachNumbers(func(a api.Asids) {
		want, number, was, err := holding(a).take()
		if b, n, owned, e := asid.Take(a); b != want || n != number || owned != was || e != err {
			t.Fatalf("Take(%+v) is %+v, %d, %v, %d, not %+v, %d, %v, %d", a, b, n, owned, e, want, number, was, err)
		}
	})
}

// P18.2: a number that is taken is given back, and no other, and is owned as it was; where it is none of them, or free, there are the numbers as they were and ErrArg.
func TestGive(t *testing.T) {
	a := api.Asids{Many: 4, Free: 0b0101, Owned: 0b1011}
	for _, x := range []struct {
		a    api.Asids
		n    uint64
		want api.Asids
		err  api.Errno
	}{
		// taken, and owned still
		{a, 2, api.Asids{Many: 4, Free: 0b0111, Owned: 0b1011}, api.OK},
		{a, 4, api.Asids{Many: 4, Free: 0b1101, Owned: 0b1011}, api.OK},
		// free: owned, and not owned
		{a, 1, a, api.ErrArg},
		{a, 3, a, api.ErrArg},
		// none of them
		{a, 0, a, api.ErrArg},
		{a, 5, a, api.ErrArg},
		{a, 6, a, api.ErrArg},
		{a, 63, a, api.ErrArg},
		{a, 64, a, api.ErrArg},
		{a, 65, a, api.ErrArg},
		{a, 66, a, api.ErrArg},
		{a, 1<<32 + 2, a, api.ErrArg},
		{a, 1 << 63, a, api.ErrArg},
		{a, 1<<63 + 2, a, api.ErrArg},
		{a, all - 1, a, api.ErrArg},
		{a, all, a, api.ErrArg},
		// neither free nor owned
		{api.Asids{Many: 3}, 2, api.Asids{Many: 3, Free: 0b010}, api.OK},
		// of one, and of all
		{api.Asids{Many: 1, Owned: 1}, 1, api.Asids{Many: 1, Free: 1, Owned: 1}, api.OK},
		{api.Asids{Many: 1, Owned: 1}, 0, api.Asids{Many: 1, Owned: 1}, api.ErrArg},
		{api.Asids{Many: 1, Owned: 1}, 2, api.Asids{Many: 1, Owned: 1}, api.ErrArg},
		{api.Asids{Many: 16, Owned: 0xffff}, 1, api.Asids{Many: 16, Free: 1, Owned: 0xffff}, api.OK},
		{api.Asids{Many: 16, Owned: 0xffff}, 16, api.Asids{Many: 16, Free: 1 << 15, Owned: 0xffff}, api.OK},
		{api.Asids{Many: 16, Owned: 0xffff}, 17, api.Asids{Many: 16, Owned: 0xffff}, api.ErrArg},
		{api.Asids{Many: 16, Free: 0xffff, Owned: 0xffff}, 9, api.Asids{Many: 16, Free: 0xffff, Owned: 0xffff}, api.ErrArg},
		{api.Asids{Many: 16, Free: 0xffff}, 9, api.Asids{Many: 16, Free: 0xffff}, api.ErrArg},
	} {
		if b, e := asid.Give(x.a, x.n); b != x.want || e != x.err {
			t.Errorf("Give(%+v, %d) is %+v, %d, not %+v, %d", x.a, x.n, b, e, x.want, x.err)
		}
	}
	eachNumbers(func(a api.Asids) {
		for _, n := range near() {
			want, err := holding(a).give(n)
			if b, e := asid.Give(a, n); b != want || e != err {
				t.Fatalf("Give(%+v, %d) is %+v, %d, not %+v, %d", a, n, b, e, want, err)
			}
		}
	})
}

// P18.2: what is given back twice is refused the second time.
func TestGiveTwice(t *testing.T) {
	eachNumbers(func(a api.Asids) {
		for n := uint64(1); n <= uint64(a.Many); n++ {
			b, _ := asid.Give(a, n)
			if c, e := asid.Give(b, n); c != b || e != api.ErrArg {
				t.Fatalf("%d, given twice to %+v, is %+v, %d", n, a, c, e)
			}
		}
	})
}

// P18.2: what is taken and given back leaves the numbers as they were, but that it is owned; and is taken again, owned.
func TestTakenAndGivenBack(t *testing.T) {
	eachNumbers(func(a api.Asids) {
		b, n, _, e := asid.Take(a)
		if e != api.OK {
			return
		}
		if asid.Free(b) != asid.Free(a)-1 || !asid.Right(b) {
			t.Fatalf("Take(%+v) is %+v", a, b)
		}
		c := giving(t, b, n)
		want := a
		want.Owned |= 1 << (n - 1)
		if c != want {
			t.Fatalf("%d, taken from %+v and given back, leaves %+v", n, a, c)
		}
		if d := taking(t, c, n, true); d != b {
			t.Fatalf("%d, taken from %+v again, leaves %+v, not %+v", n, a, d, b)
		}
	})
}

// P18.2, P18.3: all are taken one behind the other, none owned; given back in other orders, and taken again, all are owned.
func TestAllTakenAndGivenBack(t *testing.T) {
	for many := 1; many <= 16; many++ {
		fresh, _ := asid.New(many)
		taken := fresh
		for n := 1; n <= many; n++ {
			taken = taking(t, taken, uint64(n), false)
		}
		if b, n, owned, e := asid.Take(taken); b != taken || n != 0 || owned || e != api.ErrAsids || asid.Free(taken) != 0 {
			t.Fatalf("Take of none of %d is %+v, %d, %v, %d", many, b, n, owned, e)
		}
		for first := range many {
			for _, step := range []int{1, many - 1} {
				back := taken
				for i := range many {
					back = giving(t, back, uint64((first+i*step)%many+1))
				}
				if want := (api.Asids{Many: many, Free: fresh.Free, Owned: fresh.Free}); back != want {
					t.Fatalf("all of %d, given back, leave %+v, not %+v", many, back, want)
				}
				for n := 1; n <= many; n++ {
					back = taking(t, back, uint64(n), true)
				}
				if back != taken {
					t.Fatalf("all of %d, taken twice, leave %+v, not %+v", many, back, taken)
				}
			}
		}
	}
}

// P18.3: a number is owned from the first time on that it is taken, along all rows of up to 6 steps, each taking one or giving one back.
func TestOwnedFromTheFirstTimeOn(t *testing.T) {
	var row func(a api.Asids, ever, held map[uint64]bool, left int)
	row = func(a api.Asids, ever, held map[uint64]bool, left int) {
		for n := uint64(1); n <= uint64(a.Many); n++ {
			if ever[n] != (a.Owned>>(n-1)&1 == 1) || held[n] != (a.Free>>(n-1)&1 == 0) {
				t.Fatalf("of what was ever taken, %v, and is so, %v, there is %+v", ever, held, a)
			}
		}
		if left == 0 {
			return
		}
		if b, n, owned, e := asid.Take(a); e == api.OK {
			if owned != ever[n] || held[n] {
				t.Fatalf("Take(%+v) is %d, %v", a, n, owned)
			}
			row(b, with(ever, n, true), with(held, n, true), left-1)
		} else if e != api.ErrAsids || a.Free != 0 {
			t.Fatalf("Take(%+v) is %d", a, e)
		}
		for n := range uint64(a.Many) + 2 {
			b, e := asid.Give(a, n)
			if (e == api.OK) != held[n] {
				t.Fatalf("Give(%+v, %d) is %d", a, n, e)
			}
			if e == api.OK {
				row(b, ever, with(held, n, false), left-1)
			}
		}
	}
	for many := 1; many <= 4; many++ {
		a, _ := asid.New(many)
		row(a, nil, nil, 6)
	}
}

// with tells what is so when that of n is as told.
func with(s map[uint64]bool, n uint64, is bool) map[uint64]bool {
	r := map[uint64]bool{n: is}
	for k, v := range s {
		if k != n {
			r[k] = v
		}
	}
	return r
}

// P18.3: a number that is passed over, since a lesser one is free, is not owned by that.
func TestPassedOver(t *testing.T) {
	a, _ := asid.New(3)
	a = taking(t, a, 1, false)
	for range 5 {
		a = taking(t, giving(t, a, 1), 1, true)
	}
	a = taking(t, a, 2, false)
	a = taking(t, giving(t, a, 1), 1, true)
	a = taking(t, a, 3, false)
	if want := (api.Asids{Many: 3, Owned: 7}); a != want {
		t.Errorf("they are %+v, not %+v", a, want)
	}
}

// What is answered hangs on the arguments alone: what was taken and given back of others before tells nothing.
func TestNothingIsKept(t *testing.T) {
	a, _ := asid.New(4)
	b, _ := asid.New(4)
	for range 3 {
		a = taking(t, a, uint64(5-asid.Free(a)), false)
	}
	a = giving(t, a, 2)
	b = taking(t, b, 1, false)
	b = taking(t, b, 2, false)
	a = taking(t, a, 2, true)
	if want := (api.Asids{Many: 4, Free: 8, Owned: 7}); a != want {
		t.Errorf("the first are %+v, not %+v", a, want)
	}
	if want := (api.Asids{Many: 4, Free: 12, Owned: 3}); b != want {
		t.Errorf("the second are %+v, not %+v", b, want)
	}
}

// The example of the chapter.
func TestExample(t *testing.T) {
	a, e := asid.New(2)
	if e != api.OK {
		t.Fatal("New:", e)
	}
	a = taking(t, a, 1, false)
	a = giving(t, a, 1)
	a = taking(t, a, 1, true)
	if want := (api.Asids{Many: 2, Free: 2, Owned: 1}); a != want {
		t.Errorf("they are %+v, not %+v", a, want)
	}
}

// No call panics, and each ends, also of numbers that aren't right, of which nothing is promised.
func TestNoPanic(t *testing.T) {
	for _, many := range []int{math.MinInt, math.MinInt + 1, -65, -64, -1, 0, 1, 16, 17, 63, 64, 65, 128, math.MaxInt - 1, math.MaxInt} {
		for _, free := range []uint64{0, 1, 2, 1 << 16, 1 << 63, all} {
			for _, owned := range []uint64{0, 1, 2, 1 << 16, 1 << 63, all} {
				a := api.Asids{Many: many, Free: free, Owned: owned}
				asid.Right(a)
				asid.Free(a)
				asid.Take(a)
				for _, n := range append(near(), uint64(many)-1, uint64(many), uint64(many)+1) {
					asid.Give(a, n)
				}
			}
		}
	}
}
