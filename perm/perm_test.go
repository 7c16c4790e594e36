package perm_test

import (
	"math"
	"strings"
	"testing"

	"atlas/api"
	"atlas/perm"
)

var kinds = []int{api.Fetch, api.Load, api.Store}

// perms tells the sixteen permissions: R, W, X, U are the bits 0 to 3 of their places.
func perms() []api.Perm {
	l := []api.Perm{}
	for n := range 16 {
		l = append(l, api.Perm{R: n&1 != 0, W: n&2 != 0, X: n&4 != 0, U: n&8 != 0})
	}
	return l
}

// ways tells all that are: of each kind and privilege, with and without SUM and MXR.
func ways() []api.Way {
	l := []api.Way{}
	for _, kind := range kinds {
		for _, priv := range []int{api.User, api.Super} {
			for n := range 4 {
				l = append(l, api.Way{Kind: kind, Priv: priv, Sum: n&1 != 0, Mxr: n&2 != 0})
			}
		}
	}
	return l
}

// letters tells permissions as a text.
func letters(p api.Perm) string {
	s := ""
	for _, x := range []struct {
		on   bool
		text string
	}{{p.R, "R"}, {p.W, "W"}, {p.X, "X"}, {p.U, "U"}} {
		if x.on {
			s += x.text
		}
	}
	return s
}

// off are numbers below the first, which is 0, and above the last, near and far; some have the lowest bits of one that is.
func off(last int) []int {
	l := []int{-1, -2, -3, -4, -256, -1 << 32, -1<<32 + 1, math.MinInt32, math.MinInt + 1, math.MinInt}
	l = append(l, last+1, last+2, last+3, 7, 8, 256, 257, 1<<16+1, 1<<32, 1<<32+1, math.MaxInt32, math.MaxInt-1, math.MaxInt)
	return l
}

// P8.1: the ways that are.
func TestIs(t *testing.T) {
	if n := len(ways()); n != 24 {
		t.Fatalf("%d ways", n)
	}
	for _, w := range ways() {
		if !perm.Is(w) {
			t.Errorf("Is(%+v): false", w)
		}
	}
}

// eachNone goes through ways that are none: by the kind, by the privilege, and by both.
func eachNone(see func(w api.Way)) {
	for n := range 4 {
		w := api.Way{Sum: n&1 != 0, Mxr: n&2 != 0}
		for _, w.Kind = range off(api.Store) {
			for _, w.Priv = range []int{api.User, api.Super, -1, 2, math.MinInt, math.MaxInt} {
				see(w)
			}
		}
		for _, w.Kind = range kinds {
			for _, w.Priv = range off(api.Super) {
				see(w)
			}
		}
	}
}

// P8.1: a kind or a privilege below the first or above the last makes no way.
func TestIsNot(t *testing.T) {
	for _, w := range []api.Way{{Kind: -1}, {Kind: 3}, {Priv: -1}, {Priv: 2}, {Kind: 2, Priv: 2}, {Kind: 3, Priv: 1}, {Kind: 1, Priv: -1}, {Kind: -1, Priv: 1}} {
		if perm.Is(w) {
			t.Errorf("Is(%+v): true", w)
		}
	}
	eachNone(func(w api.Way) {
		if perm.Is(w) {
			t.Errorf("Is(%+v): true", w)
		}
	})
}

// permitted are, of each of the sixteen permissions, the kinds that it permits: F, L, S.
var permitted = []struct {
	perm string
	// of User, without and with MXR
	user, userMxr string
	// of Super, without and with MXR, and with SUM likewise
	super, superMxr, sum, sumMxr string
}{
	{"", "", "", "", "", "", ""},
	{"R", "", "", "L", "L", "L", "L"},
	{"W", "", "", "S", "S", "S", "S"},
	{"RW", "", "", "LS", "LS", "LS", "LS"},
	{"X", "", "", "F", "FL", "F", "FL"},
	{"RX", "", "", "FL", "FL", "FL", "FL"},
	{"WX", "", "", "FS", "FLS", "FS", "FLS"},
	{"RWX", "", "", "FLS", "FLS", "FLS", "FLS"},
	{"U", "", "", "", "", "", ""},
	{"RU", "L", "L", "", "", "L", "L"},
	{"WU", "S", "S", "", "", "S", "S"},
	{"RWU", "LS", "LS", "", "", "LS", "LS"},
	{"XU", "F", "FL", "", "", "", "L"},
	{"RXU", "FL", "FL", "", "", "L", "L"},
	{"WXU", "FS", "FLS", "", "", "S", "LS"},
	{"RWXU", "FLS", "FLS", "", "", "LS", "LS"},
}

// P8.1: each of the sixteen permissions against each way.
func TestAllows(t *testing.T) {
	for i, p := range perms() {
		x := permitted[i]
		if letters(p) != x.perm {
			t.Fatalf("%+v stands where %s does", p, x.perm)
		}
		for _, w := range ways() {
			// The columns' order: User, Super, Super with SUM; SUM is nothing to users.
			column := 2 * w.Priv
			if w.Priv == api.Super && w.Sum {
				column = 4
			}
			if w.Mxr {
				column++
			}
			want := []string{x.user, x.userMxr, x.super, x.superMxr, x.sum, x.sumMxr}[column]
			if got := perm.Allows(p, w); got != strings.Contains(want, "FLS"[w.Kind:w.Kind+1]) {
				t.Errorf("Allows(%s, %+v): %v", x.perm, w, got)
			}
		}
	}
}

// P8.1: the chapter's example: R, W, U, which users may load and store, and the supervisor by SUM alone; fetched it never is.
func TestExample(t *testing.T) {
	p := api.Perm{R: true, W: true, U: true}
	for _, w := range ways() {
		want := w.Kind != api.Fetch && (w.Priv == api.User || w.Sum)
		if got := perm.Allows(p, w); got != want {
			t.Errorf("Allows(%s, %+v): %v", letters(p), w, got)
		}
	}
	p.X = true
	for _, w := range ways() {
		if got := perm.Allows(p, w); w.Kind == api.Fetch && got != (w.Priv == api.User) {
			t.Errorf("Allows(%s, %+v): %v", letters(p), w, got)
		}
	}
}

// Of ways that are none nothing is promised of Allows but that no call panics.
func TestAllowsNoPanic(t *testing.T) {
	eachNone(func(w api.Way) {
		for _, p := range perms() {
			perm.Allows(p, w)
		}
	})
}

// P8.1: which permissions may be; W without R may not, nor may neither R nor X.
func TestMay(t *testing.T) {
	for i, want := range []struct {
		perm string
		may  bool
	}{
		{"", false},
		{"R", true},
		{"W", false},
		{"RW", true},
		{"X", true},
		{"RX", true},
		{"WX", false},
		{"RWX", true},
		{"U", false},
		{"RU", true},
		{"WU", false},
		{"RWU", true},
		{"XU", true},
		{"RXU", true},
		{"WXU", false},
		{"RWXU", true},
	} {
		p := perms()[i]
		if letters(p) != want.perm {
			t.Fatalf("%+v stands where %s does", p, want.perm)
		}
		if got := perm.May(p); got != want.may {
			t.Errorf("May(%s): %v", want.perm, got)
		}
	}
}

// less are the pairs of permissions alike in U, by R, W, X: a row is that of p, a column of q, and x where p are less than q.
var less = []string{
	".xxxxxxx", // none
	"..xxxxxx", // R
	".x.xxxxx", // W
	"....xxxx", // RW
	".xxx.xxx", // X
	"..xx..xx", // RX
	".x.x.x.x", // WX
	"........", // RWX
}

// P8.1: all pairs of permissions; of such as aren't alike in U each is less than the other.
func TestLess(t *testing.T) {
	for i, p := range perms() {
		for j, q := range perms() {
			want := p.U != q.U || less[i%8][j%8] == 'x'
			if got := perm.Less(p, q); got != want {
				t.Errorf("Less(%q, %q): %v", letters(p), letters(q), got)
			}
		}
	}
}

// P8.1: each of R, W, X, U lacking alone, each had more, and U had or not beside others.
func TestLessOfOne(t *testing.T) {
	rwx := api.Perm{R: true, W: true, X: true}
	rwxu := api.Perm{R: true, W: true, X: true, U: true}
	for _, x := range []struct {
		p, q api.Perm
		want bool
	}{
		{api.Perm{}, api.Perm{}, false},
		{rwx, rwx, false},
		{rwxu, rwxu, false},
		{api.Perm{W: true, X: true}, rwx, true},
		{api.Perm{R: true, X: true}, rwx, true},
		{api.Perm{R: true, W: true}, rwx, true},
		{rwx, api.Perm{W: true, X: true}, false},
		{rwx, api.Perm{R: true, X: true}, false},
		{rwx, api.Perm{R: true, W: true}, false},
		{rwx, rwxu, true},
		{rwxu, rwx, true},
		{rwxu, api.Perm{R: true}, true},
		{rwxu, api.Perm{R: true, U: true}, false},
		{api.Perm{X: true}, api.Perm{R: true}, true},
		{api.Perm{R: true}, api.Perm{X: true}, true},
		{api.Perm{U: true}, api.Perm{}, true},
		{api.Perm{}, api.Perm{U: true}, true},
	} {
		if got := perm.Less(x.p, x.q); got != x.want {
			t.Errorf("Less(%q, %q): %v", letters(x.p), letters(x.q), got)
		}
	}
}

// P8.2: what isn't less permits all that the others do.
func TestNotLessPermits(t *testing.T) {
	alike := 0
	for _, p := range perms() {
		for _, q := range perms() {
			if perm.Less(p, q) {
				continue
			}
			alike++
			for _, w := range ways() {
				if perm.Allows(q, w) && !perm.Allows(p, w) {
					t.Errorf("%q isn't less than %q, which permits %+v", letters(p), letters(q), w)
				}
			}
		}
	}
	// Of R, W, X each is had by both, by neither, or by the first alone; U by both or neither.
	if alike != 3*3*3*2 {
		t.Errorf("%d pairs are not less", alike)
	}
}
