package cause_test

import (
	"math"
	"testing"

	"atlas/api"
	"atlas/cause"
)

// told are the nine causes as the chapter tells them: the sort (1, 2, 3), the kind, the number and the name.
var told = []struct {
	sort, kind, number int
	name               string
}{
	{1, api.Fetch, 0, "odd\x20fetch"},
	{1, api.Load, 4, "odd\x20load"},
	{1, api.Store, 6, "odd\x20store"},
	{2, api.Fetch, 1, "access\x20fetch"},
	{2, api.Load, 5, "access\x20load"},
	{2, api.Store, 7, "access\x20store"},
	{3, api.Fetch, 12, "page\x20fetch"},
	{3, api.Load, 13, "page\x20load"},
	{3, api.Store, 15, "page\x20store"},
}

// calls are the faults' functions, by the sorts.
var calls = map[int]func(kind int, addr uint64) api.Fault{1: cause.Odd, 2: cause.Access, 3: cause.Page}

// addresses are 0, the greatest one, and between: each power of two and its neighbours, canonical and not, odd and even.
func addresses() []uint64 {
	l := []uint64{0, 1, 5, 9, 0x5008, 0x40201fff, 0x4000000000, 0xffffffc000000000, 0x123456789abcdef0, 0xfffffffffffff000, math.MaxUint64 - 1, math.MaxUint64}
	for i := range 64 {
		a := uint64(1) << i
		l = append(l, a-1, a, a+1, ^a)
	}
	return l
}

// isCause tells whether n is one of the nine.
func isCause(n int) bool {
	for _, x := range told {
		if x.number == n {
			return true
		}
	}
	return false
}

// none are numbers that are no cause: below the first, between, above the last, and far off, some with the lowest bits of one.
func none() []int {
	l := []int{2, 3, 8, 9, 10, 11, 14, 16, 17, 31, 63, 64, 255, 256, 257, 268, 1<<16 + 4, 1<<32 + 6, 1<<32 + 12, 1<<62 + 13, math.MaxInt32, math.MaxInt - 1, math.MaxInt}
	l = append(l, -1, -2, -4, -5, -6, -7, -12, -13, -15, -16, -256, -256+1, math.MinInt32, math.MinInt+4, math.MinInt+12, math.MinInt)
	for n := -3000; n < 3000; n++ {
		if !isCause(n) {
			l = append(l, n)
		}
	}
	return l
}

// P9.1: each kind with each sort, at all kinds of addresses.
func TestFaults(t *testing.T) {
	for _, x := range told {
		for _, a := range addresses() {
			want := api.Fault{Is: true, Cause: x.number, Addr: a}
			if got := calls[x.sort](x.kind, a); got != want {
				t.Errorf("%q of %#x: %+v", x.name, a, got)
			}
		}
	}
}

// P9.1: the numbers written out call by call, and the chapter's example.
func TestFaultsOfCalls(t *testing.T) {
	for i, got := range []api.Fault{
		cause.Odd(api.Fetch, 0), cause.Odd(api.Load, 1), cause.Odd(api.Store, math.MaxUint64),
		cause.Access(api.Fetch, 0), cause.Access(api.Load, 1), cause.Access(api.Store, math.MaxUint64),
		cause.Page(api.Fetch, 0), cause.Page(api.Load, 1), cause.Page(api.Store, math.MaxUint64),
	} {
		want := api.Fault{Is: true, Cause: []int{0, 4, 6, 1, 5, 7, 12, 13, 15}[i], Addr: []uint64{0, 1, math.MaxUint64}[i%3]}
		if got != want {
			t.Errorf("the fault %d: %+v, not %+v", i, got, want)
		}
	}
	if got := cause.Page(api.Store, 5); got != (api.Fault{Is: true, Cause: 15, Addr: 5}) {
		t.Errorf("Page(Store, 5): %+v", got)
	}
	if got := cause.Name(13); got != "page load" {
		t.Errorf("Name(13): %q", got)
	}
}

// P9.2: each of the nine causes, told as its sort and kind, and named; asked twice, for nothing is kept.
func TestSortName(t *testing.T) {
	for range 2 {
		for _, x := range told {
			if sort, kind := cause.Sort(x.number); sort != x.sort || kind != x.kind {
				t.Errorf("Sort(%d): %d, %d", x.number, sort, kind)
			}
			if got := cause.Name(x.number); got != x.name {
				t.Errorf("Name(%d): %q", x.number, got)
			}
		}
	}
}

// P9.2: numbers that are no cause have no sort, no kind and no name.
func TestNone(t *testing.T) {
	for _, n := range none() {
		if sort, kind := cause.Sort(n); sort != 0 || kind != 0 {
			t.Errorf("Sort(%d): %d, %d", n, sort, kind)
		}
		if got := cause.Name(n); got != "" {
			t.Errorf("Name(%d): %q", n, got)
		}
	}
}

// P9.2: of all numbers around there are nine causes.
func TestNine(t *testing.T) {
	many := 0
	for n := -3000; n < 3000; n++ {
		sort, _ := cause.Sort(n)
		if (sort != 0) != (cause.Name(n) != "") {
			t.Errorf("%d has a sort, or a name, alone", n)
		}
		if sort != 0 {
			many++
		}
	}
	if many != 9 {
		t.Errorf("%d causes", many)
	}
}

// P9.3: the nine causes, and the nine names, are each unlike all others, and a fault's cause tells which call told it, and of which kind.
func TestUnlike(t *testing.T) {
	numbers, names := map[int]bool{}, map[string]bool{}
	for sort := 1; sort <= 3; sort++ {
		for kind := api.Fetch; kind <= api.Store; kind++ {
			f := calls[sort](kind, 9)
			numbers[f.Cause] = true
			names[cause.Name(f.Cause)] = true
			if s, k := cause.Sort(f.Cause); s != sort || k != kind {
				t.Errorf("Sort(%d): %d, %d, of the sort %d and the kind %d", f.Cause, s, k, sort, kind)
			}
		}
	}
	if len(numbers) != 9 || len(names) != 9 || names[""] {
		t.Errorf("%d causes, %d names", len(numbers), len(names))
	}
}

// Of kinds that are none nothing is promised but that no call panics.
func TestNoPanic(t *testing.T) {
	for _, kind := range []int{-1, -2, 3, 4, 8, 1 << 32, math.MinInt, math.MaxInt} {
		for _, a := range []uint64{0, 5, math.MaxUint64} {
			for _, call := range calls {
				call(kind, a)
			}
		}
	}
}
