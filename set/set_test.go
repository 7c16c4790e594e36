package set_test

import (
	"math"
	"strings"
	"testing"

	"atlas/api"
	"atlas/plru"
	"atlas/set"
)

const (
	all   = ^uint64(0)
	trees = 8
	ways  = 4
)

// letter tells the entry that tests write as that letter: of the page 512 of 4 KiB those of the numbers 1 and 2 and a global one of 3 (a, b, g); such as differ from a beside the page and the number (d, which is a with D and another frame); of the same page number at the next level (m; n is global); another page (c), the first one (z) and the last one (y); the page of 1 GiB of the page number 0 (l). The dot is a way that isn't Valid.
func letter(c byte) api.Entry {
	e := api.Entry{Valid: true, Asid: 1, Vpn: 512, Ppn: 512, Perm: api.Perm{R: true}}
	switch c {
	case '.':
		return api.Entry{}
	case 'b':
		e.Asid = 2
	case 'g':
		e.Asid, e.Global = 3, true
	case 'd':
		e.Ppn, e.Perm, e.Dirty = 1024, api.Perm{R: true, W: true, X: true, U: true}, true
	case 'm':
		e.Level = 1
	case 'n':
		e.Level, e.Asid, e.Global = 1, 3, true
	case 'c':
		e.Vpn = 513
	case 'z':
		e.Vpn = 0
	case 'y':
		e.Vpn = 1<<27 - 1
	case 'l':
		e.Level, e.Vpn, e.Ppn = 2, 0, 0
	}
	return e
}

// laid tells the set of four letters and a tree.
func laid(word string, tree uint8) api.Set {
	s := api.Set{Tree: tree}
	for i := range ways {
		s.Ways[i] = letter(word[i])
	}
	return s
}

// words tells all words of four letters of an alphabet.
func words(alphabet string) []string {
	l := []string{""}
	for range ways {
		var longer []string
		for _, w := range l {
			for _, c := range alphabet {
				longer = append(longer, w+string(c))
			}
		}
		l = longer
	}
	return l
}

// same tells whether the letters are of the same page, each pair written out.
func same(c, d byte) bool {
	for _, kin := range []string{"ad", "bb", "agd", "bg", "mn", "cc", "zz", "yy", "ll"} {
		if strings.IndexByte(kin, c) >= 0 && strings.IndexByte(kin, d) >= 0 {
			return true
		}
	}
	return false
}

// twins tells whether two of a word's letters are of the same page.
func twins(word string) bool {
	for i := range word {
		for j := range i {
			if same(word[i], word[j]) {
				return true
			}
		}
	}
	return false
}

// span tells the first address and the bytes of a letter's page.
func span(c byte) (uint64, uint64) {
	switch c {
	case 'm', 'n':
		return 0x200000, 0x200000
	case 'c':
		return 0x201000, 0x1000
	case 'z':
		return 0, 0x1000
	case 'y':
		return 0xfffffffffffff000, 0x1000
	case 'l':
		return 0, 0x40000000
	}
	return 0x200000, 0x1000
}

// found tells the way of a word that is to be found, and -1 if there is none.
func found(word string, asid, addr uint64, level int) int {
	for i := range word {
		e := letter(word[i])
		if from, many := span(word[i]); e.Valid && e.Level == level && addr-from < many && (e.Global || e.Asid == asid) {
			return i
		}
	}
	return -1
}

// touched are the bits of a tree when each way was touched: those that it sets, and those that stay.
var touched = [ways]struct{ set, stay uint8 }{{0b011, 0b100}, {0b001, 0b100}, {0b100, 0b010}, {0b000, 0b010}}

// touch tells the tree when the way was touched.
func touch(tree uint8, way int) uint8 {
	return touched[way].set | tree&touched[way].stay
}

// victims are the ways that are to go, by the trees.
var victims = [trees]int{0b000: 0, 0b001: 2, 0b010: 1, 0b011: 2, 0b100: 0, 0b101: 3, 0b110: 1, 0b111: 3}

// filled tells the word when the letter was put into it, and the way where it is.
func filled(word string, tree uint8, c byte, victim int) (string, int) {
	b := []byte(word)
	for i := range b {
		if same(b[i], c) {
			b[i] = '.'
		}
	}
	way := victims[tree]
	if i := strings.IndexByte(string(b), '.'); i >= 0 {
		way = i
	}
	if victim >= 0 && victim <= 3 {
		way = victim
	}
	b[way] = c
	return string(b), way
}

// P13.1: of the trees 0 to 7 a set is right, whatever else it has, and of no greater one.
func TestRightTree(t *testing.T) {
	for n := range 256 {
		for _, word := range []string{"....", "a...", "abmc", "...y"} {
			if got := set.Right(laid(word, uint8(n))); got != (n <= 7) {
				t.Errorf("Right of %s, of the tree %d: %v", word, n, got)
			}
		}
	}
}

// wrong tells entries that may not be: none Valid but something, and each field beyond what it may be.
func wrong() []api.Entry {
	l := []api.Entry{
		{Asid: 1}, {Global: true}, {Level: 1}, {Level: 2}, {Level: -1}, {Level: 3}, {Vpn: 1}, {Vpn: 512}, {Ppn: 1}, {Dirty: true},
		{Perm: api.Perm{R: true}}, {Perm: api.Perm{W: true}}, {Perm: api.Perm{X: true}}, {Perm: api.Perm{U: true}},
	}
	for _, e := range []api.Entry{
		{Level: -1}, {Level: 3}, {Level: math.MaxInt}, {Level: math.MinInt}, {Asid: 1 << 16}, {Asid: all}, {Vpn: 1 << 27}, {Vpn: all}, {Ppn: 1 << 44}, {Ppn: all},
		{Level: 1, Vpn: 1}, {Level: 1, Vpn: 511}, {Level: 1, Vpn: 1 << 27}, {Level: 1, Ppn: 256}, {Level: 1, Ppn: 1 << 44},
		{Level: 2, Vpn: 512}, {Level: 2, Vpn: 1 << 17}, {Level: 2, Vpn: 1 << 27}, {Level: 2, Ppn: 512}, {Level: 2, Ppn: 1 << 44},
	} {
		e.Valid = true
		l = append(l, e)
	}
	a := letter('a')
	a.Valid = false
	return append(l, a)
}

// P13.1: a set isn't right if one way's entry may not be, at each of the ways, empty ones and full ones.
func TestRightEntries(t *testing.T) {
	for _, e := range wrong() {
		for way := range ways {
			for _, word := range []string{"....", "abmc", "g.l."} {
				for _, tree := range []uint8{0, 7} {
					s := laid(word, tree)
					s.Ways[way] = e
					if set.Right(s) {
						t.Errorf("%s with %+v at %d is right", word, e, way)
					}
				}
			}
		}
		if set.Right(api.Set{Ways: [ways]api.Entry{e, e, e, e}}) {
			t.Errorf("four times %+v is right", e)
		}
	}
}

// P13.1: a set is right by its entries, one by one: also with such as are of the same page, with ways that aren't Valid between others, with the greatest fields that may be.
func TestRightWords(t *testing.T) {
	for i, word := range words(".abgdmcyl") {
		if !set.Right(laid(word, uint8(i%trees))) {
			t.Fatalf("%s isn't right", word)
		}
	}
	for level, n := range []uint64{1, 512, 1 << 18} {
		for way := range ways {
			s := laid("a.bc", 7)
			s.Ways[way] = api.Entry{Valid: true, Level: level, Asid: 1<<16 - 1, Vpn: 1<<27 - n, Ppn: 1<<44 - n, Dirty: true}
			if !set.Right(s) {
				t.Errorf("%+v isn't right", s)
			}
		}
	}
}

// P13.1: one page and one number, unlike numbers with neither, either and both global, unlike levels, unlike page numbers, either way round.
func TestSame(t *testing.T) {
	e := func(level int, vpn, asid uint64, global bool) api.Entry {
		return api.Entry{Valid: true, Level: level, Vpn: vpn, Asid: asid, Global: global}
	}
	for i, x := range []struct {
		e, f api.Entry
		want bool
	}{
		{e(0, 5, 1, false), e(0, 5, 1, false), true},
		{e(0, 5, 1, false), e(0, 5, 2, false), false},
		{e(0, 5, 1, true), e(0, 5, 2, false), true},
		{e(0, 5, 1, false), e(0, 5, 2, true), true},
		{e(0, 5, 1, true), e(0, 5, 2, true), true},
		{e(0, 5, 1, true), e(0, 5, 1, false), true},
		{e(0, 5, 1, true), e(0, 5, 1, true), true},
		{e(0, 5, 0, false), e(0, 5, 0, false), true},
		{e(0, 5, 0, false), e(0, 5, 1<<16-1, false), false},
		{e(0, 0, 0, false), e(0, 0, 0, false), true},
		// unlike levels, though one lies within the other
		{e(0, 512, 1, false), e(1, 512, 1, false), false},
		{e(1, 512, 1, true), e(0, 512, 1, true), false},
		{e(0, 0, 1, true), e(2, 0, 1, true), false},
		{e(1, 0, 1, true), e(2, 0, 1, true), false},
		{e(1, 512, 1, false), e(1, 512, 1, false), true},
		{e(2, 1<<18, 1, true), e(2, 1<<18, 2, false), true},
		// unlike page numbers
		{e(0, 5, 1, false), e(0, 6, 1, false), false},
		{e(0, 5, 1, true), e(0, 6, 1, true), false},
		{e(0, 5, 1, true), e(0, 5+1<<26, 1, true), false},
		{e(1, 512, 1, true), e(1, 1024, 1, true), false},
		{e(0, 1<<27-1, 1, false), e(0, 1<<27-1, 1, false), true},
	} {
		if set.Same(x.e, x.f) != x.want || set.Same(x.f, x.e) != x.want {
			t.Errorf("%d: Same(%+v, %+v): %v, and the other way round %v", i, x.e, x.f, set.Same(x.e, x.f), set.Same(x.f, x.e))
		}
	}
}

// P13.1: what isn't Valid is of the same page as nothing, itself included, whatever else it has.
func TestSameNotValid(t *testing.T) {
	for _, c := range []byte(".abgdmnczyl") {
		e := letter(c)
		e.Valid = false
		for _, d := range []byte(".abgdmnczyl") {
			f := letter(d)
			for range 2 {
				if set.Same(e, f) || set.Same(f, e) {
					t.Errorf("%+v and %+v are of the same page", e, f)
				}
				f.Valid = false
			}
		}
	}
}

// P13.1: all pairs of the letters, held against the pairs written out; where an entry leads, what it permits and its D count for nothing.
func TestSameLetters(t *testing.T) {
	for _, c := range []byte(".abgdmnczyl") {
		for _, d := range []byte(".abgdmnczyl") {
			want := same(c, d)
			e, f := letter(c), letter(d)
			if got := set.Same(e, f); got != want {
				t.Errorf("Same of %c and %c: %v", c, d, got)
			}
			if e.Valid && f.Valid {
				f.Ppn, f.Perm, f.Dirty = 7<<18, api.Perm{W: true, X: true}, !f.Dirty
				if got := set.Same(e, f); got != want {
					t.Errorf("Same of %c and %c, which leads elsewhere: %v", c, d, got)
				}
			}
		}
	}
}

// P13.1: what is found, written out: the least of two, the one of the level, none, and nothing in the empty set.
func TestFind(t *testing.T) {
	for i, x := range []struct {
		word       string
		asid, addr uint64
		level      int
		way        int
		ok         bool
	}{
		{"....", 0, 0, 0, 0, false},
		{"....", 1, 0x200000, 0, 0, false},
		{"....", 1, 0, 2, 0, false},
		{"a...", 1, 0x200000, 0, 0, true},
		{"...a", 1, 0x200fff, 0, 3, true},
		{".a..", 1, 0x1fffff, 0, 0, false},
		{".a..", 1, 0x201000, 0, 0, false},
		// two ways match
		{".a.d", 1, 0x200000, 0, 1, true},
		{"cagd", 1, 0x200000, 0, 1, true},
		{"cgad", 1, 0x200000, 0, 1, true},
		{"..gg", 9, 0x200000, 0, 2, true},
		{"aaaa", 1, 0x200abc, 0, 0, true},
		// other numbers, global or not
		{"ab..", 2, 0x200000, 0, 1, true},
		{"ab..", 3, 0x200000, 0, 0, false},
		{"abg.", 3, 0x200000, 0, 2, true},
		{"abg.", 0, 0x200000, 0, 2, true},
		{"abg.", 2, 0x200000, 0, 1, true},
		// another level
		{"m..a", 1, 0x200000, 0, 3, true},
		{"m..a", 1, 0x200000, 1, 0, true},
		{"m...", 1, 0x200000, 0, 0, false},
		{"a...", 1, 0x200000, 1, 0, false},
		{"a.ml", 1, 0x200000, 2, 3, true},
		{"a.ml", 1, 0x3fffff, 1, 2, true},
		{"a.ml", 1, 0x3fffff, 0, 0, false},
		{"a.ml", 1, 0x200000, 3, 0, false},
		{"a.ml", 1, 0x200000, -1, 0, false},
		{"zzzz", 1, 0, 1, 0, false},
		// the ends
		{"...z", 1, 0, 0, 3, true},
		{"..y.", 1, all, 0, 2, true},
		{"..y.", 1, 0x3ffffff000, 0, 0, false},
		{"l...", 1, 0x3fffffff, 2, 0, true},
		{"l...", 1, 0x40000000, 2, 0, false},
	} {
		for tree := range uint8(trees) {
			if way, ok := set.Find(laid(x.word, tree), x.asid, x.addr, x.level); way != x.way || ok != x.ok {
				t.Errorf("%d: Find in %s of %d, %#x, %d: %d, %v, not %d, %v", i, x.word, x.asid, x.addr, x.level, way, ok, x.way, x.ok)
			}
		}
	}
}

// P13.1: what is found in all words of an alphabet, by many numbers, addresses and levels; nothing is kept from one to the next.
func TestFindEverywhere(t *testing.T) {
	for i, word := range words(".abgmnczy") {
		s := laid(word, uint8(i%trees))
		for _, asid := range []uint64{0, 1, 2, 3} {
			for _, addr := range []uint64{0, 0xfff, 0x1fffff, 0x200000, 0x200abc, 0x201000, 0x3fffff, 0x400000, all} {
				for level := range 3 {
					want := found(word, asid, addr, level)
					way, ok := set.Find(s, asid, addr, level)
					if ok != (want >= 0) || way != max(want, 0) {
						t.Fatalf("Find in %s of %d, %#x, %d: %d, %v, not %d", word, asid, addr, level, way, ok, want)
					}
				}
			}
		}
	}
}

// P13.2: each way used, of each tree: the tree is touched, written out bit by bit and by layer 11, and the ways stay.
func TestUse(t *testing.T) {
	wants := [ways][trees]uint8{
		{0b011, 0b011, 0b011, 0b011, 0b111, 0b111, 0b111, 0b111},
		{0b001, 0b001, 0b001, 0b001, 0b101, 0b101, 0b101, 0b101},
		{0b100, 0b100, 0b110, 0b110, 0b100, 0b100, 0b110, 0b110},
		{0b000, 0b000, 0b010, 0b010, 0b000, 0b000, 0b010, 0b010},
	}
	for _, word := range []string{"....", "abmc", "a..g", "dddd"} {
		for way, row := range wants {
			for tree, want := range row {
				s := laid(word, uint8(tree))
				got := set.Use(s, way)
				if got != laid(word, want) || got.Tree != plru.Touch(s.Tree, way) || !set.Right(got) {
					t.Errorf("Use of %s, %03b, %d: %+v, not the tree %03b", word, tree, way, got, want)
				}
				if s != laid(word, uint8(tree)) {
					t.Errorf("Use of %s, %03b, %d changes what is handed in: %+v", word, tree, way, s)
				}
			}
		}
	}
}

// P13.2: each way dropped, of each tree: that one is zero, be it already, and the others and the tree stay.
func TestDrop(t *testing.T) {
	for _, x := range []struct {
		word  string
		wants [ways]string
	}{
		{"....", [ways]string{"....", "....", "....", "...."}},
		{"abmc", [ways]string{".bmc", "a.mc", "ab.c", "abm."}},
		{"a..g", [ways]string{"...g", "a..g", "a..g", "a..."}},
		{"dddd", [ways]string{".ddd", "d.dd", "dd.d", "ddd."}},
	} {
		for way, want := range x.wants {
			for tree := range uint8(trees) {
				s := laid(x.word, tree)
				got := set.Drop(s, way)
				if got != laid(want, tree) || !set.Right(got) {
					t.Errorf("Drop of %s, %d: %+v, not %s", x.word, way, got, want)
				}
				if s != laid(x.word, tree) {
					t.Errorf("Drop of %s, %d changes what is handed in: %+v", x.word, way, s)
				}
			}
		}
	}
}

// put tells that the letter, put into the set of the word and the tree by that victim, gives the word want, the way touched, and what was handed in as it was.
func put(t *testing.T, word string, tree uint8, c byte, victim int, want string, way int) {
	t.Helper()
	s, e := laid(word, tree), letter(c)
	got, w := set.Put(s, e, victim)
	if w != way || got != laid(want, touch(tree, way)) {
		t.Fatalf("Put of %c into %s, %03b, by %d: %+v, %d, not %s, %d", c, word, tree, victim, got, w, want, way)
	}
	if s != laid(word, tree) || e != letter(c) {
		t.Fatalf("Put of %c into %s, %03b, by %d changes what is handed in", c, word, tree, victim)
	}
}

// P13.2: puts where no entry is of the same page, whatever the tree: into an empty set, into the least way that isn't Valid, into each victim.
func TestPut(t *testing.T) {
	for _, x := range []struct {
		word   string
		c      byte
		victim int
		want   string
		way    int
	}{
		{"....", 'a', -1, "a...", 0},
		{"....", 'a', 4, "a...", 0},
		{"....", 'a', 0, "a...", 0},
		{"....", 'a', 1, ".a..", 1},
		{"....", 'a', 2, "..a.", 2},
		{"....", 'a', 3, "...a", 3},
		{"a...", 'c', -1, "ac..", 1},
		{"ab..", 'c', 4, "abc.", 2},
		{"abm.", 'c', -1, "abmc", 3},
		// one that isn't Valid between others, and ahead of them
		{"a.bm", 'c', -1, "acbm", 1},
		{"ab.m", 'c', 4, "abcm", 2},
		{"a..m", 'c', -1, "ac.m", 1},
		{".abm", 'c', -1, "cabm", 0},
		{"...m", 'c', -1, "c..m", 0},
		// a victim goes ahead of one that isn't Valid
		{"a.bm", 'c', 0, "c.bm", 0},
		{"a.bm", 'c', 1, "acbm", 1},
		{"a.bm", 'c', 2, "a.cm", 2},
		{"a.bm", 'c', 3, "a.bc", 3},
		{"abm.", 'c', 1, "acm.", 1},
		// a full one
		{"abml", 'c', 0, "cbml", 0},
		{"abml", 'c', 1, "acml", 1},
		{"abml", 'c', 2, "abcl", 2},
		{"abml", 'c', 3, "abmc", 3},
	} {
		for tree := range uint8(trees) {
			put(t, x.word, tree, x.c, x.victim, x.want, x.way)
		}
	}
}

// P13.2: puts into a full set by a victim that is no way: the tree tells which goes.
func TestPutByTree(t *testing.T) {
	wants := [ways]string{"cbml", "acml", "abcl", "abmc"}
	for tree, way := range victims {
		for _, victim := range []int{-1, 4, -2, 5, 7, 8, -4, 1 << 32, 1<<32 + 1, math.MaxInt, math.MinInt} {
			put(t, "abml", uint8(tree), 'c', victim, wants[way], way)
		}
		if got := plru.Victim(uint8(tree)); got != way {
			t.Errorf("layer 11 tells the way %d of %03b, not %d", got, tree, way)
		}
	}
}

// P13.2: puts where one way, and where several, are of the same page: they become zero first, at ways below and above the one that is filled, and it itself; others stay.
func TestPutSame(t *testing.T) {
	for _, x := range []struct {
		word   string
		c      byte
		victim int
		want   string
		way    int
	}{
		// one, which is the least that isn't Valid then, or isn't
		{"a...", 'd', -1, "d...", 0},
		{".a..", 'd', -1, "d...", 0},
		{"...a", 'd', 4, "d...", 0},
		{"bcam", 'd', -1, "bcdm", 2},
		{"bcma", 'd', -1, "bcmd", 3},
		{"abcm", 'd', -1, "dbcm", 0},
		{"b.ma", 'd', -1, "bdm.", 1},
		{"ba.m", 'd', -1, "bd.m", 1},
		// one, and a victim below, above, and the same
		{"bcam", 'd', 0, "dc.m", 0},
		{"bcam", 'd', 1, "bd.m", 1},
		{"bcam", 'd', 2, "bcdm", 2},
		{"bcam", 'd', 3, "bc.d", 3},
		{"abcm", 'd', 3, ".bcd", 3},
		{"bcma", 'd', 0, "dcm.", 0},
		// several
		{"abgc", 'g', -1, "g..c", 0},
		{"cabg", 'g', -1, "cg..", 1},
		{"cbma", 'g', 2, "c.g.", 2},
		{"abcb", 'g', 3, "..cg", 3},
		{"bcba", 'g', 1, ".g..", 1},
		{"aaaa", 'a', -1, "a...", 0},
		{"aaaa", 'a', 2, "..a.", 2},
		{"gabg", 'a', 3, "..ba", 3},
		{"dgmn", 'a', -1, "a.mn", 0},
		{"cgdl", 'a', 4, "ca.l", 1},
		{"mncl", 'n', 3, "..cn", 3},
		// another number's, and other levels' of the page number, stay
		{"bmcl", 'a', 3, "bmca", 3},
		{"b.n.", 'a', -1, "ban.", 1},
		{"agbm", 'n', 0, "ngb.", 0},
		{"z.l.", 'l', 1, "zl..", 1},
		// those that aren't of the page of what is put stay, be they of one
		{"aadg", 'c', 3, "aadc", 3},
		{"gb.a", 'c', -1, "gbca", 2},
	} {
		for tree := range uint8(trees) {
			put(t, x.word, tree, x.c, x.victim, x.want, x.way)
		}
	}
}

// P13.2: all words of an alphabet, of all trees, each letter put by each victim and by none.
func TestPutEverywhere(t *testing.T) {
	for _, word := range words(".abgmc") {
		for tree := range uint8(trees) {
			for _, c := range []byte("abgdmnc") {
				for victim := -1; victim <= 4; victim++ {
					want, way := filled(word, tree, c, victim)
					put(t, word, tree, c, victim, want, way)
				}
			}
		}
	}
}

// P13.3: what is put is found, by its own number, and if it is global by all, at the first, a middle and the last address of its page, in the way that Put told; the set is right, and the way isn't the next to go.
func TestPutFound(t *testing.T) {
	for i, word := range words(".abgdmnc") {
		tree := uint8(i % trees)
		for _, c := range []byte("abgdmncyl") {
			for victim := -1; victim <= 4; victim++ {
				e := letter(c)
				s, way := set.Put(laid(word, tree), e, victim)
				if !set.Right(s) || s.Ways[way] != e || plru.Victim(s.Tree) == way {
					t.Fatalf("%c put into %s by %d: %+v, %d", c, word, victim, s, way)
				}
				asids := []uint64{e.Asid}
				if e.Global {
					asids = []uint64{0, 1, 2, 3, 1<<16 - 1}
				}
				from, many := span(c)
				for _, asid := range asids {
					for _, addr := range []uint64{from, from + many/2, from + many - 1} {
						if w, ok := set.Find(s, asid, addr, e.Level); !ok || w != way {
							t.Fatalf("%c put into %s by %d at %d: of %d, %#x found %d, %v", c, word, victim, way, asid, addr, w, ok)
						}
					}
				}
			}
		}
	}
}

// alone tells that no two ways of a set are of the same page.
func alone(s api.Set) bool {
	for i, e := range s.Ways {
		for _, f := range s.Ways[:i] {
			if set.Same(e, f) {
				return false
			}
		}
	}
	return true
}

// P13.3: no two ways are of the same page, if none were, whatever is put and wherever.
func TestAlone(t *testing.T) {
	for i, word := range words(".abgdmnc") {
		s := laid(word, uint8(i%trees))
		if alone(s) == twins(word) {
			t.Fatalf("%s: alone %v", word, alone(s))
		}
		if twins(word) {
			continue
		}
		for _, c := range []byte("abgdmncyl") {
			for victim := -1; victim <= 4; victim++ {
				if got, _ := set.Put(s, letter(c), victim); !alone(got) {
					t.Fatalf("%c put into %s by %d: %+v has two of the same page", c, word, victim, got)
				}
			}
		}
	}
}

// P13.2, P13.3: up to five letters put one behind the other from the empty set on, all there are, by the tree and by victims in turn.
func TestPutSeveral(t *testing.T) {
	var follow func(s api.Set, word string, tree uint8, path string)
	follow = func(s api.Set, word string, tree uint8, path string) {
		if s != laid(word, tree) || !alone(s) || !set.Right(s) {
			t.Fatalf("%s put: %+v, not %s, %03b", path, s, word, tree)
		}
		if len(path) == 5 {
			return
		}
		for i, c := range []byte("abgmcyl") {
			victim := -1
			if i%3 == 2 {
				victim = (len(path) + i) % 5
			}
			next, at := filled(word, tree, c, victim)
			n, way := set.Put(s, letter(c), victim)
			if way != at {
				t.Fatalf("%s, %c put: at %d, not %d", path, c, way, at)
			}
			follow(n, next, touch(tree, at), path+string(c))
		}
	}
	follow(api.Set{}, "....", 0, "")
}

// P13.2: the chapter's examples, and the pages that go when a set is full, by the tree.
func TestExamples(t *testing.T) {
	var s api.Set
	for i, want := range []int{0, 1, 2, 3, 0, 2, 1, 3, 0, 2} {
		n, way := set.Put(s, api.Entry{Valid: true, Vpn: uint64(i), Asid: 1}, -1)
		if way != want {
			t.Errorf("Put of the page %d: at %d, not %d", i, way, want)
		}
		s = n
	}
}

// P13.2: a way that was used isn't the next to go, one that was dropped is the next to be filled.
func TestUseDropPut(t *testing.T) {
	for way := range ways {
		for tree := range uint8(trees) {
			s := laid("abml", tree)
			if _, at := set.Put(set.Use(s, way), letter('c'), -1); at == way {
				t.Errorf("%d was used, of %03b, and goes", way, tree)
			}
			if _, at := set.Put(set.Drop(set.Use(s, way), way), letter('c'), -1); at != way {
				t.Errorf("%d was dropped, of %03b, and %d is filled", way, tree, at)
			}
		}
	}
}

// Of sets that aren't right, entries that may not be and ways that are none nothing is promised but that no call panics.
func TestNoPanic(t *testing.T) {
	odd := append(wrong(), letter('a'), api.Entry{})
	for n := range 256 {
		e := odd[n%len(odd)]
		s := api.Set{Ways: [ways]api.Entry{e, letter('a'), odd[n*7%len(odd)], e}, Tree: uint8(n)}
		for _, way := range []int{0, 3, 4, 5, 8, -1, -4, 1 << 32, math.MinInt, math.MaxInt} {
			set.Use(s, way)
			set.Drop(s, way)
			for _, f := range odd {
				set.Put(s, f, way)
				set.Same(e, f)
			}
			for _, addr := range []uint64{0, 0x200000, 1 << 38, 1 << 63, all} {
				set.Find(s, uint64(n), addr, way)
			}
		}
	}
}
