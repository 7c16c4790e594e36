package satp_test

import (
	"testing"

	"atlas/api"
	"atlas/satp"
)

const (
	all      = ^uint64(0)
	sv39     = uint64(0x8000000000000000)
	ppnMost  = 17592186044415
	asidMost = 65535
)

// word tells a register's word as a sum.
func word(s api.Satp) uint64 {
	return s.Ppn + s.Asid*0x100000000000 + s.Mode*0x1000000000000000
}

// may tells whether a register may be, by the greatest numbers of its fields.
func may(s api.Satp) bool {
	switch s.Mode {
	case 0:
		return s.Asid == 0 && s.Ppn == 0
	case 8:
		return s.Asid <= asidMost && s.Ppn <= ppnMost
	}
	return false
}

// near are the numbers around the greatest one of so many bits, and others far beyond it.
func near(wide int) []uint64 {
	most := uint64(1)<<wide - 1
	return []uint64{0, 1, 2, most / 2, most/2 + 1, most - 1, most, most + 1, most + 2, most * 2, most << 8, 1 << 63, all - most, all}
}

// modes are 0 to 15, those beyond, and such whose lowest four bits are those of Sv39 or of Bare.
func modes() []uint64 {
	l := []uint64{24, 32, 40, 128, 136, 255, 256, 264, 1<<32 | 8, 1 << 60, 1<<60 | 8, 1 << 63, 1<<63 | 8, all - 7, all - 15, all}
	for m := range uint64(18) {
		l = append(l, m)
	}
	return l
}

// eachRegister goes through registers of all modes with fields in and beyond their bits.
func eachRegister(see func(s api.Satp)) {
	asids := append(near(16), 0x1234, 0x5555, 0xaaaa, 0x12345)
	ppns := append(near(44), 5, 511, 512, 1<<28, 0x123456789ab, 0x123456789abc)
	for _, mode := range modes() {
		for _, asid := range asids {
			for _, ppn := range ppns {
				see(api.Satp{Mode: mode, Asid: asid, Ppn: ppn})
			}
		}
	}
}

// checkMay holds the calls against a register that may be, and its word.
func checkMay(t *testing.T, s api.Satp, w uint64) {
	t.Helper()
	if !satp.May(s) {
		t.Errorf("May(%+v): false", s)
	}
	if got, e := satp.Put(s); got != w || e != api.OK {
		t.Errorf("Put(%+v): %#x, %d, not %#x", s, got, e, w)
	}
	if got, e := satp.Get(w); got != s || e != api.OK {
		t.Errorf("Get(%#x): %+v, %d, not %+v", w, got, e, s)
	}
}

// checkMayNot holds the calls against a register that may not be.
func checkMayNot(t *testing.T, s api.Satp) {
	t.Helper()
	if satp.May(s) {
		t.Errorf("May(%+v): true", s)
	}
	if w, e := satp.Put(s); w != 0 || e != api.ErrArg {
		t.Errorf("Put(%+v): %#x, %d", s, w, e)
	}
}

// checkNone holds Get against a word that is none's.
func checkNone(t *testing.T, w uint64) {
	t.Helper()
	if s, e := satp.Get(w); s != (api.Satp{}) || e != api.ErrArg {
		t.Errorf("Get(%#x): %+v, %d", w, s, e)
	}
}

// P7.1: registers that may be, and their words; the chapter's example, and each field at 0 and at the greatest number that its bits hold.
func TestWord(t *testing.T) {
	for _, x := range []struct {
		s api.Satp
		w uint64
	}{
		{api.Satp{}, 0},
		{api.Satp{Mode: 8, Asid: 1, Ppn: 2}, 0x8000100000000002},
		{api.Satp{Mode: 8}, 0x8000000000000000},
		{api.Satp{Mode: 8, Asid: 1}, 0x8000100000000000},
		{api.Satp{Mode: 8, Asid: 0x8000}, 0x8800000000000000},
		{api.Satp{Mode: 8, Asid: 65534}, 0x8fffe00000000000},
		{api.Satp{Mode: 8, Asid: 65535}, 0x8ffff00000000000},
		{api.Satp{Mode: 8, Ppn: 1}, 0x8000000000000001},
		{api.Satp{Mode: 8, Ppn: 1 << 43}, 0x8000080000000000},
		{api.Satp{Mode: 8, Ppn: ppnMost - 1}, 0x80000ffffffffffe},
		{api.Satp{Mode: 8, Ppn: ppnMost}, 0x80000fffffffffff},
		{api.Satp{Mode: 8, Asid: 65535, Ppn: ppnMost}, 0x8fffffffffffffff},
		{api.Satp{Mode: 8, Asid: 0x1234, Ppn: 0x56789abcdef}, 0x8123456789abcdef},
	} {
		checkMay(t, x.s, x.w)
	}
}

// P7.1: the modes 0 to 15 and beyond, with Asid and Ppn zero and not.
func TestModes(t *testing.T) {
	for _, mode := range modes() {
		for _, s := range []api.Satp{
			{Mode: mode},
			{Mode: mode, Asid: 1},
			{Mode: mode, Ppn: 1},
			{Mode: mode, Asid: 1, Ppn: 2},
			{Mode: mode, Asid: asidMost, Ppn: ppnMost},
		} {
			if mode == 8 || s == (api.Satp{}) {
				checkMay(t, s, word(s))
				continue
			}
			checkMayNot(t, s)
			if mode < 16 {
				checkNone(t, word(s))
			}
		}
	}
}

// P7.1: of the Mode Bare the zero register alone, each bit of Asid or Ppn alone told.
func TestBare(t *testing.T) {
	checkMay(t, api.Satp{}, 0)
	for i := range 64 {
		checkMayNot(t, api.Satp{Asid: 1 << i})
		checkMayNot(t, api.Satp{Ppn: 1 << i})
		checkMayNot(t, api.Satp{Asid: 1 << i, Ppn: 1 << i})
	}
	for _, w := range []uint64{1, 2, ppnMost, 1 << 44, asidMost << 44, 1<<60 - 1} {
		checkNone(t, w)
	}
}

// P7.1: one more than a field's bits hold, and any bit beyond them, has no word.
func TestBeyond(t *testing.T) {
	for _, s := range []api.Satp{
		{Mode: 8, Asid: 65536},
		{Mode: 8, Asid: 65537},
		{Mode: 8, Asid: 1<<17 - 1},
		{Mode: 8, Asid: all},
		{Mode: 8, Ppn: 1 << 44},
		{Mode: 8, Ppn: 1<<44 | 2},
		{Mode: 8, Ppn: 1<<45 - 1},
		{Mode: 8, Ppn: all},
		{Mode: 8, Asid: 65535, Ppn: ppnMost + 1},
		{Mode: 8, Asid: 65536, Ppn: ppnMost},
		{Mode: 8, Asid: 65536, Ppn: ppnMost + 1},
		{Mode: 16},
		{Mode: 24},
		{Mode: 24, Asid: 1, Ppn: 2},
		{Mode: all, Asid: all, Ppn: all},
	} {
		checkMayNot(t, s)
	}
	for i := range 64 {
		if i >= 4 {
			checkMayNot(t, api.Satp{Mode: 1 << i})
			checkMayNot(t, api.Satp{Mode: 1<<i | 8, Asid: 1, Ppn: 2})
		}
		if i >= 16 {
			checkMayNot(t, api.Satp{Mode: 8, Asid: 1 << i})
			checkMayNot(t, api.Satp{Mode: 8, Asid: 1<<i | asidMost, Ppn: 2})
		}
		if i >= 44 {
			checkMayNot(t, api.Satp{Mode: 8, Ppn: 1 << i})
			checkMayNot(t, api.Satp{Mode: 8, Asid: 1, Ppn: 1<<i | ppnMost})
		}
	}
}

// P7.1: words whose bits are all set, each bit of a word alone, each bit beside the Mode Sv39, and all but it.
func TestGetOfEachBit(t *testing.T) {
	checkNone(t, all)
	for i := range 64 {
		w := uint64(1) << i
		want, rest := api.Satp{Mode: 8}, api.Satp{Mode: 8, Asid: asidMost, Ppn: ppnMost}
		switch {
		case i < 44:
			want.Ppn = w
			rest.Ppn -= w
		case i < 60:
			want.Asid = 1 << (i - 44)
			rest.Asid -= want.Asid
		case i < 63:
			// Another mode than Sv39, alone or beside it.
			checkNone(t, w)
			checkNone(t, sv39|w)
			checkNone(t, all-w)
			continue
		default:
			checkMay(t, want, w)
			checkNone(t, all-w)
			continue
		}
		checkNone(t, w)
		checkMay(t, want, sv39|w)
		checkMay(t, rest, 0x8fffffffffffffff-w)
	}
}

// P7.1, P7.2: a register that may be is read of its word as it was, and one that may not be has none.
func TestPutIsRead(t *testing.T) {
	eachRegister(func(s api.Satp) {
		if got := satp.May(s); got != may(s) {
			t.Fatalf("May(%+v): %v", s, got)
		}
		w, e := satp.Put(s)
		if !may(s) {
			if w != 0 || e != api.ErrArg {
				t.Fatalf("Put(%+v): %#x, %d", s, w, e)
			}
			return
		}
		if w != word(s) || e != api.OK {
			t.Fatalf("Put(%+v): %#x, %d, not %#x", s, w, e, word(s))
		}
		if got, e := satp.Get(w); got != s || e != api.OK {
			t.Fatalf("%+v is read of its word as %+v, %d", s, got, e)
		}
	})
}

// P7.1, P7.2: a word is that of the one register that may be which is read of it, or it is none's.
func TestGetIsPut(t *testing.T) {
	a := uint64(1)
	for range 20000 {
		// A walk over words that is the same in each run.
		a = a*6364136223846793005 + 1442695040888963407
		b := a ^ a>>29
		for _, w := range []uint64{b, b >> 4, b>>4 | sv39, b >> 20, b>>20 | sv39, b<<44>>4 | sv39, b << 60, b<<60 | 1} {
			s, e := satp.Get(w)
			if w != 0 && w>>60 != 8 {
				if s != (api.Satp{}) || e != api.ErrArg {
					t.Fatalf("Get(%#x): %+v, %d", w, s, e)
				}
				continue
			}
			if e != api.OK || !may(s) || !satp.May(s) || word(s) != w {
				t.Fatalf("Get(%#x): %+v, %d", w, s, e)
			}
			if got, e := satp.Put(s); got != w || e != api.OK {
				t.Fatalf("%#x, read and put, is %#x, %d", w, got, e)
			}
		}
	}
}

// P7.1: the Mode Sv39 alone is on, whatever else the register has.
func TestOn(t *testing.T) {
	for _, x := range []struct {
		s    api.Satp
		want bool
	}{
		{api.Satp{}, false},
		{api.Satp{Mode: 8}, true},
		{api.Satp{Mode: 8, Asid: 1, Ppn: 2}, true},
		{api.Satp{Mode: 8, Asid: asidMost, Ppn: ppnMost}, true},
		// such as may not be
		{api.Satp{Asid: 1}, false},
		{api.Satp{Ppn: 1}, false},
		{api.Satp{Mode: 9}, false},
		{api.Satp{Mode: 24}, false},
		{api.Satp{Mode: 1<<63 | 8}, false},
		{api.Satp{Mode: 8, Asid: asidMost + 1}, true},
		{api.Satp{Mode: 8, Ppn: ppnMost + 1}, true},
		{api.Satp{Mode: 8, Asid: all, Ppn: all}, true},
	} {
		if got := satp.On(x.s); got != x.want {
			t.Errorf("On(%+v): %v", x.s, got)
		}
	}
	eachRegister(func(s api.Satp) {
		if got := satp.On(s); got != (s.Mode == 8) {
			t.Fatalf("On(%+v): %v", s, got)
		}
	})
}
