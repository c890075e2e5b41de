package flash_test

import (
	"math"
	"reflect"
	"strings"
	"testing"

	"ouroboros/api"
	"ouroboros/flash"
)

var fuses = []int{math.MinInt, -2, -1, 0, 1, 2, math.MaxInt}

// torns are an empty one, short ones, one as long as a page of 5 bytes, and long ones.
func torns() []string {
	return []string{"", "\x00", "\xff", "\x0f", "\xa5\x3c", "\x01\x80\x00\xff\x10", "\x01\x02\x04\x08\x10\x20\x40", strings.Repeat("\x5a", 63) + "\x00", strings.Repeat("\x9c\x71", 32)}
}

// device is one of 3 pages of 5 bytes: a page that was erased, one of all kinds of bytes, one of zeros.
func device() api.Flash {
	return api.Flash{Pages: []string{"\xff\xff\xff\xff\xff", "\x0f\xf0\x81\x00\xff", "\x00\x00\x00\x00\x00"}, Wear: []int{0, 7, api.MaxNum}, Fuse: -1}
}

func awake(fuse int, torn string) api.Flash {
	f := device()
	f.Fuse, f.Torn = fuse, torn
	return f
}

func died() api.Flash {
	f := awake(0, "\x3c")
	f.Dead = true
	return f
}

// twin is another device that is alike, and shares nothing.
func twin(f api.Flash) api.Flash {
	f.Pages, f.Wear = append([]string{}, f.Pages...), append([]int{}, f.Wear...)
	return f
}

// alike holds two devices against each other by the library: lists without things are alike.
func alike(a, b api.Flash) bool { return reflect.DeepEqual(twin(a), twin(b)) }

// wrongs are devices that may not be, each by one part.
func wrongs() []api.Flash {
	var out []api.Flash
	for _, spoil := range []func(*api.Flash){
		func(f *api.Flash) { *f = api.Flash{} },
		func(f *api.Flash) { f.Pages, f.Wear = nil, nil },
		func(f *api.Flash) { f.Pages, f.Wear = []string{}, []int{} },
		func(f *api.Flash) { f.Pages, f.Wear = make([]string, 7), make([]int, 7) },
		func(f *api.Flash) { f.Pages, f.Wear = strings.Split("a b c d e f g", " "), make([]int, 7) },
		func(f *api.Flash) { f.Pages = []string{"", "", ""} },
		func(f *api.Flash) { f.Pages[0] = f.Pages[0][:4] },
		func(f *api.Flash) { f.Pages[1] += "\x00" },
		func(f *api.Flash) { f.Pages[2] = "" },
		func(f *api.Flash) { f.Pages, f.Wear = []string{strings.Repeat("\xff", 8193)}, []int{0} },
		func(f *api.Flash) { f.Wear = nil },
		func(f *api.Flash) { f.Wear = f.Wear[:2] },
		func(f *api.Flash) { f.Wear = append(f.Wear, 0) },
		func(f *api.Flash) { f.Wear[0] = -1 },
		func(f *api.Flash) { f.Wear[2] = api.MaxNum + 1 },
		func(f *api.Flash) { f.Wear[1] = math.MinInt },
		func(f *api.Flash) { f.Torn = strings.Repeat("\xff", 65) },
	} {
		for _, f := range []api.Flash{device(), awake(0, "\xff"), died()} {
			spoil(&f)
			out = append(out, f)
		}
	}
	return out
}

func TestNew(t *testing.T) {
	for _, x := range [][2]int{{1, 1}, {1, 8192}, {3, 4}, {6, 1}, {6, 8192}} {
		f, e := flash.New(x[0], x[1])
		if e != api.OK || len(f.Pages) != x[0] || len(f.Wear) != x[0] || f.Fuse != -1 || f.Torn != "" || f.Dead {
			t.Errorf("New(%d, %d): %v, %v", x[0], x[1], f, e)
		}
		for i, p := range f.Pages {
			if p != strings.Repeat("\xff", x[1]) || f.Wear[i] != 0 || !flash.Free(f, i) {
				t.Errorf("New(%d, %d): page %d is %q, erased %d times", x[0], x[1], i, p, f.Wear[i])
			}
		}
		if e := flash.Check(f); e != api.OK {
			t.Errorf("New(%d, %d) may not be: %v", x[0], x[1], e)
		}
	}
}

func TestNewThatMayNotBe(t *testing.T) {
	for _, wrong := range []int{math.MinInt, -1, 0, 8193, 100001, math.MaxInt} {
		for _, right := range []int{1, 6} {
			for _, x := range [][2]int{{wrong, right}, {right, wrong}, {wrong, wrong}} {
				if f, e := flash.New(x[0], x[1]); !alike(f, api.Flash{}) || e != api.ErrArg {
					t.Errorf("New(%d, %d): %v, %v, not ErrArg", x[0], x[1], f, e)
				}
			}
		}
	}
	if f, e := flash.New(7, 4); !alike(f, api.Flash{}) || e != api.ErrArg {
		t.Errorf("New(7, 4): %v, %v, not ErrArg", f, e)
	}
}

func TestCheck(t *testing.T) {
	for _, fuse := range fuses {
		for _, torn := range torns() {
			f := awake(fuse, torn)
			if e := flash.Check(f); e != api.OK {
				t.Errorf("%v may not be: %v", f, e)
			}
			f.Dead = true
			if e := flash.Check(f); e != api.OK {
				t.Errorf("%v may not be: %v", f, e)
			}
		}
	}
	for _, f := range wrongs() {
		if e := flash.Check(f); e != api.ErrArg {
			t.Errorf("%v may be: %v", f, e)
		}
	}
}

func TestCheckEdges(t *testing.T) {
	for _, size := range []int{1, 8192} {
		for _, pages := range []int{1, 6} {
			f := api.Flash{}
			for range pages {
				f.Pages, f.Wear = append(f.Pages, strings.Repeat("x", size)), append(f.Wear, api.MaxNum)
			}
			if e := flash.Check(f); e != api.OK {
				t.Errorf("%d pages of %d bytes may not be: %v", pages, size, e)
			}
		}
	}
}

// lessOne is a fuse behind a step that was done.
func lessOne(fuse int) int {
	if fuse > 0 {
		return fuse - 1
	}
	return fuse
}

func TestEraseInFull(t *testing.T) {
	for page, wear := range []int{1, 8, api.MaxNum} {
		for _, fuse := range fuses {
			if fuse == 0 {
				continue
			}
			for _, torn := range torns() {
				f := awake(fuse, torn)
				want := twin(f)
				want.Pages[page], want.Wear[page], want.Fuse = "\xff\xff\xff\xff\xff", wear, lessOne(fuse)
				if got, e := flash.Erase(f, page); !alike(got, want) || e != api.OK {
					t.Errorf("Erase(%v, %d): %v, %v, not %v", f, page, got, e, want)
				}
			}
		}
	}
}

func TestEraseOfAlmostWorn(t *testing.T) {
	f := device()
	f.Wear[1] = api.MaxNum - 2
	for _, want := range []int{api.MaxNum - 1, api.MaxNum, api.MaxNum, api.MaxNum} {
		var e api.Errno
		if f, e = flash.Erase(f, 1); e != api.OK || f.Wear[1] != want || flash.Check(f) != api.OK {
			t.Errorf("erased %d times, %v, not %d", f.Wear[1], e, want)
		}
	}
}

func TestProgramAllBytes(t *testing.T) {
	for was := range 256 {
		f := api.Flash{Pages: []string{string([]byte{byte(was)})}, Wear: []int{3}, Fuse: -1}
		for s := range 256 {
			got, e := flash.Program(f, 0, 0, string([]byte{byte(s)}))
			if e != api.OK || got.Pages[0][0] != byte(was&s) {
				t.Fatalf("program %d over %d: %d, %v", s, was, got.Pages[0][0], e)
			}
		}
	}
}

func TestProgramInItsPlace(t *testing.T) {
	for _, x := range []struct {
		page, at int
		s, want  string
	}{
		{0, 0, "\x0f", "\x0f\xff\xff\xff\xff"},
		{1, 1, "\x0f", "\x0f\x00\x81\x00\xff"},
		{1, 0, "\x3c\x3c\x3c\x3c\x3c", "\x0c\x30\x00\x00\x3c"},
		{1, 4, "\x01", "\x0f\xf0\x81\x00\x01"},
		{1, 2, "\xff\xff\xff", "\x0f\xf0\x81\x00\xff"},
		{0, 3, "ab", "\xff\xff\xffab"},
		{0, 0, "abcde", "abcde"},
		{0, 0, "", "\xff\xff\xff\xff\xff"},
		{0, 5, "", "\xff\xff\xff\xff\xff"},
		{2, 1, "abc", "\x00\x00\x00\x00\x00"},
	} {
		for _, fuse := range fuses {
			if fuse == 0 {
				continue
			}
			f := awake(fuse, "\xff")
			want := twin(f)
			want.Pages[x.page], want.Fuse = x.want, lessOne(fuse)
			if got, e := flash.Program(f, x.page, x.at, x.s); !alike(got, want) || e != api.OK {
				t.Errorf("Program(%v, %d, %d, %q): %v, %v, not %v", f, x.page, x.at, x.s, got, e, want)
			}
		}
	}
}

// tornBit tells whether Torn has that bit of byte i of a page.
func tornBit(torn string, i, bit int) bool {
	return len(torn) > 0 && torn[i%len(torn)]>>bit&1 == 1
}

// tornErase is the page behind a torn Erase, bit by bit.
func tornErase(was, torn string) string {
	out := []byte(was)
	for i := range out {
		for bit := range 8 {
			if tornBit(torn, i, bit) {
				out[i] |= 1 << bit
			}
		}
	}
	return string(out)
}

// tornProgram is the page behind a torn Program, bit by bit.
func tornProgram(was string, at int, s, torn string) string {
	out := []byte(was)
	for i := range len(s) {
		for bit := range 8 {
			if s[i]>>bit&1 == 0 && tornBit(torn, at+i, bit) {
				out[at+i] &^= 1 << bit
			}
		}
	}
	return string(out)
}

// isBetween tells whether no bit of got is another one than in both was and would.
func isBetween(was, would, got string) bool {
	for i := range len(got) {
		if (got[i]^was[i])&(got[i]^would[i]) != 0 {
			return false
		}
	}
	return len(got) == len(was)
}

func TestTornErase(t *testing.T) {
	for _, torn := range torns() {
		for page := range 3 {
			f := awake(0, torn)
			want := twin(f)
			want.Pages[page], want.Dead = tornErase(f.Pages[page], torn), true
			got, e := flash.Erase(f, page)
			if !alike(got, want) || e != api.ErrDead {
				t.Errorf("Erase(%v, %d): %v, %v, not %v", f, page, got, e, want)
			}
			if whole, _ := flash.Erase(device(), page); !isBetween(f.Pages[page], whole.Pages[page], got.Pages[page]) {
				t.Errorf("a torn Erase makes %q of %q", got.Pages[page], f.Pages[page])
			}
		}
	}
}

func TestTornProgram(t *testing.T) {
	for _, torn := range torns() {
		for page := range 3 {
			for _, s := range []string{"", "\x00", "\xf0", "\xff\x00", "\x12\x34\x56", "\x00\x00\x00\x00\x00"} {
				for at := range 6 - len(s) {
					f := awake(0, torn)
					want := twin(f)
					want.Pages[page], want.Dead = tornProgram(f.Pages[page], at, s, torn), true
					got, e := flash.Program(f, page, at, s)
					if !alike(got, want) || e != api.ErrDead {
						t.Errorf("Program(%v, %d, %d, %q): %v, %v, not %v", f, page, at, s, got, e, want)
					}
					if whole, _ := flash.Program(device(), page, at, s); !isBetween(f.Pages[page], whole.Pages[page], got.Pages[page]) {
						t.Errorf("a torn Program makes %q of %q", got.Pages[page], f.Pages[page])
					}
				}
			}
		}
	}
}

// Torn goes round in a page that is longer, by places of the page, not of what is programmed.
func TestTornOfALongPage(t *testing.T) {
	torn := strings.Repeat("\x00", 63) + "\x81"
	f, _ := flash.New(1, 200)
	f, _ = flash.Program(f, 0, 0, strings.Repeat("\x00", 200))
	w, _ := flash.Wake(f, 0, torn)
	got, e := flash.Erase(w, 0)
	for i := range 200 {
		want := byte(0)
		if i == 63 || i == 127 || i == 191 {
			want = 0x81
		}
		if e != api.ErrDead || got.Pages[0][i] != want {
			t.Errorf("byte %d is %x, %v, not %x", i, got.Pages[0][i], e, want)
		}
	}
	g, _ := flash.New(1, 200)
	w, _ = flash.Wake(g, 0, torn)
	got, e = flash.Program(w, 0, 127, "\x7f\x00")
	if want := strings.Repeat("\xff", 127) + "\x7f" + strings.Repeat("\xff", 72); got.Pages[0] != want || e != api.ErrDead {
		t.Errorf("a torn Program: %q, %v", got.Pages[0], e)
	}
}

// A fuse of n lets n steps be done, whichever they are; the next one is torn, and then none is done till it wakes.
func TestFuseBurns(t *testing.T) {
	for steps := range 4 {
		f, _ := flash.Wake(device(), steps, "")
		var e api.Errno
		for i := range steps {
			if i%2 == 0 {
				f, e = flash.Program(f, 0, i, "\x00")
			} else {
				f, e = flash.Erase(f, 2)
			}
			if e != api.OK || f.Dead || f.Fuse != steps-1-i {
				t.Errorf("step %d of %d: %v, %v", i, steps, f, e)
			}
		}
		f, e = flash.Program(f, 1, 0, "")
		if e != api.ErrDead || !f.Dead || f.Fuse != 0 {
			t.Errorf("behind %d steps: %v, %v", steps, f, e)
		}
		f, _ = flash.Wake(f, -1, "")
		if f, e = flash.Erase(f, 1); e != api.OK || !flash.Free(f, 1) {
			t.Errorf("awake again: %v, %v", f, e)
		}
	}
}

func TestDeadDoesNothing(t *testing.T) {
	for _, fuse := range fuses {
		f := died()
		f.Fuse = fuse
		for page := range 3 {
			if got, e := flash.Erase(f, page); !alike(got, f) || e != api.ErrDead {
				t.Errorf("Erase(%v, %d): %v, %v", f, page, got, e)
			}
			if got, e := flash.Program(f, page, 1, "\x00\x00"); !alike(got, f) || e != api.ErrDead {
				t.Errorf("Program(%v, %d): %v, %v", f, page, got, e)
			}
		}
	}
}

// refusesAll tells of each call with a page, a place and a text whether it tells ErrArg and the device as it was.
func refusesAll(f api.Flash, page, at int, s string) bool {
	a, e := flash.Program(f, page, at, s)
	b, g := flash.Rot(f, page, at, s)
	return e == api.ErrArg && g == api.ErrArg && alike(a, f) && alike(b, f)
}

// R1: what is wrong is told ahead of a death, and a step that is refused does not die.
func TestWrongPlaces(t *testing.T) {
	for _, f := range []api.Flash{device(), awake(0, "\xff"), awake(3, ""), died()} {
		for _, page := range []int{math.MinInt, -1, 3, 4, 6, math.MaxInt} {
			if got, e := flash.Erase(f, page); !alike(got, f) || e != api.ErrArg {
				t.Errorf("Erase(%v, %d): %v, %v, not ErrArg", f, page, got, e)
			}
			for _, s := range []string{"", "a", "abcdef"} {
				if !refusesAll(f, page, 0, s) {
					t.Errorf("page %d of %v is written or turned", page, f)
				}
			}
			if flash.Free(f, page) {
				t.Errorf("page %d of %v is free", page, f)
			}
		}
		for _, x := range []struct {
			at int
			s  string
		}{{math.MinInt, "a"}, {-1, ""}, {-1, "a"}, {5, "a"}, {6, ""}, {4, "ab"}, {1, "abcde"}, {0, "abcdef"}, {math.MaxInt, ""}, {math.MaxInt, "abc"}} {
			if !refusesAll(f, 1, x.at, x.s) {
				t.Errorf("%q at %d of %v is written or turned", x.s, x.at, f)
			}
		}
	}
}

func TestWrongDevices(t *testing.T) {
	for _, f := range wrongs() {
		if got, e := flash.Erase(f, 0); !alike(got, f) || e != api.ErrArg {
			t.Errorf("Erase(%v): %v, %v, not ErrArg", f, got, e)
		}
		if !refusesAll(f, 0, 0, "") || !refusesAll(f, 0, 0, "a") {
			t.Errorf("%v is written or turned", f)
		}
		if got, e := flash.Wake(f, 3, "x"); !alike(got, f) || e != api.ErrArg {
			t.Errorf("Wake(%v): %v, %v, not ErrArg", f, got, e)
		}
		if flash.Free(f, 0) {
			t.Errorf("page 0 of %v is free", f)
		}
	}
}

func TestWake(t *testing.T) {
	for _, f := range []api.Flash{device(), awake(5, "abc"), died()} {
		for _, fuse := range fuses {
			for _, torn := range torns() {
				want := twin(f)
				want.Fuse, want.Torn, want.Dead = fuse, torn, false
				if got, e := flash.Wake(f, fuse, torn); !alike(got, want) || e != api.OK {
					t.Errorf("Wake(%v, %d, %q): %v, %v", f, fuse, torn, got, e)
				}
			}
			for _, torn := range []string{strings.Repeat("\xff", 65), strings.Repeat("a", 1000)} {
				if got, e := flash.Wake(f, fuse, torn); !alike(got, f) || e != api.ErrArg {
					t.Errorf("Wake(%v, %d, %d bytes): %v, %v, not ErrArg", f, fuse, len(torn), got, e)
				}
			}
		}
	}
}

func TestRot(t *testing.T) {
	for _, f := range []api.Flash{device(), awake(0, "\xff"), awake(2, ""), died()} {
		for _, x := range []struct {
			page, at   int
			turn, want string
		}{
			{0, 0, "\x01", "\xfe\xff\xff\xff\xff"},
			{1, 1, "\xff\x0f\x10\x01", "\x0f\x0f\x8e\x10\xfe"},
			{1, 0, "\xff\xff\xff\xff", "\xf0\x0f\x7e\xff\xff"},
			{2, 4, "\x42", "\x00\x00\x00\x00\x42"},
			{2, 2, "\x00\x03", "\x00\x00\x00\x03\x00"},
			{1, 0, "", "\x0f\xf0\x81\x00\xff"},
			{1, 5, "", "\x0f\xf0\x81\x00\xff"},
		} {
			want := twin(f)
			want.Pages[x.page] = x.want
			got, e := flash.Rot(f, x.page, x.at, x.turn)
			if !alike(got, want) || e != api.OK {
				t.Errorf("Rot(%v, %d, %d, %q): %v, %v, not %v", f, x.page, x.at, x.turn, got, e, want)
			}
			if again, e := flash.Rot(got, x.page, x.at, x.turn); !alike(again, f) || e != api.OK {
				t.Errorf("%q turned twice at %d: %v, %v, not %v", x.turn, x.at, again, e, f)
			}
		}
		if got, e := flash.Rot(f, 1, 0, "\x00\x00\x00\x00\x00"); !alike(got, f) || e != api.ErrArg {
			t.Errorf("5 bytes are turned: %v, %v", got, e)
		}
	}
}

func TestFree(t *testing.T) {
	f := device()
	for page, want := range []bool{true, false, false} {
		if got := flash.Free(f, page); got != want {
			t.Errorf("page %d is free: %v", page, got)
		}
	}
	f = died()
	if !flash.Free(f, 0) || flash.Free(f, 1) {
		t.Error("of a device that died the wrong pages are free")
	}
	for at := range 5 {
		for bit := range 8 {
			if g, _ := flash.Rot(f, 0, at, string([]byte{1 << bit})); flash.Free(g, 0) {
				t.Errorf("free without bit %d of byte %d", bit, at)
			}
		}
	}
}

func TestSame(t *testing.T) {
	all := append(wrongs(), device(), awake(1, ""), awake(-1, "a"), awake(-1, "b"), died())
	for _, change := range []func(*api.Flash){
		func(f *api.Flash) { f.Pages[2] = "\x00\x00\x00\x00\x01" },
		func(f *api.Flash) { f.Pages[0] = "\xff\xff\xff\xff" },
		func(f *api.Flash) { f.Pages[0], f.Pages[1] = f.Pages[1], f.Pages[0] },
		func(f *api.Flash) { f.Pages = f.Pages[:2] },
		func(f *api.Flash) { f.Wear[0] = 1 },
		func(f *api.Flash) { f.Wear[1] = 0 },
		func(f *api.Flash) { f.Dead = true },
	} {
		f := device()
		change(&f)
		all = append(all, f)
	}
	for _, a := range all {
		for _, b := range all {
			if flash.Same(a, b) != alike(a, b) || flash.Same(a, twin(b)) != flash.Same(b, a) {
				t.Errorf("%v and %v alike: %v", a, b, flash.Same(a, b))
			}
		}
		if !flash.Same(a, twin(a)) {
			t.Errorf("%v is not like itself", a)
		}
	}
	if !flash.Same(api.Flash{}, api.Flash{Pages: []string{}, Wear: []int{}}) {
		t.Error("lists without things are not alike")
	}
}

// answers are what all calls tell of a device.
func answers(f api.Flash) []api.Flash {
	var out []api.Flash
	for _, page := range []int{-1, 0, 1, 2} {
		a, _ := flash.Erase(f, page)
		b, _ := flash.Program(f, page, 0, "\x00\x01")
		c, _ := flash.Program(f, page, 9, "\x00\x01")
		d, _ := flash.Rot(f, page, 1, "\x03\x04")
		e, _ := flash.Rot(f, page, 1, "12345")
		out = append(out, a, b, c, d, e)
	}
	g, _ := flash.Wake(f, 1, "x")
	h, _ := flash.Wake(f, 1, strings.Repeat("x", 99))
	return append(out, g, h)
}

// R3, R4: an argument is as it was, whatever is done with it, and with what is told; the same call tells the same.
func TestNothingIsShared(t *testing.T) {
	for _, f := range append(wrongs(), device(), awake(0, "\x55"), awake(1, ""), died()) {
		was := twin(f)
		first := answers(f)
		var kept []api.Flash
		for _, a := range first {
			kept = append(kept, twin(a))
		}
		for _, a := range first {
			for i := range a.Pages {
				a.Pages[i] = "changed"
			}
			for i := range a.Wear {
				a.Wear[i] = -9
			}
		}
		if !alike(f, was) {
			t.Fatalf("%v is %v now", was, f)
		}
		for i, a := range answers(f) {
			if !alike(a, kept[i]) {
				t.Errorf("call %d of %v: %v, then %v", i, f, kept[i], a)
			}
		}
	}
}

// P1: whatever is asked, all calls end, none panics, and tell what the bits of the document tell.
func FuzzAllCalls(f *testing.F) {
	f.Add("\xff\xff\x0f\x00", 2, 0, 0, -1, 0, "", "\x00", false)
	f.Add("\x00\x00\x0f\x00", 1, 0, 2, 0, 3, "\x01", "\x00\x01", false)
	f.Add("abc", 3, 2, 1, 1, api.MaxNum, "abc", "", true)
	f.Add("", 0, 0, 0, 0, 0, "", "", false)
	f.Add("abcdefg", 7, 6, -1, 0, -1, "\xff", "abcde", false)
	f.Fuzz(func(t *testing.T, bytes string, pages, page, at, fuse, wear int, torn, s string, dead bool) {
		flash.New(pages, at)
		dev := api.Flash{Fuse: fuse, Torn: torn, Dead: dead}
		if pages > 0 && pages < 10 {
			for i := range pages {
				size := len(bytes) / pages
				dev.Pages, dev.Wear = append(dev.Pages, bytes[i*size:(i+1)*size]), append(dev.Wear, wear)
			}
		}
		checkSteps(t, dev, page, at, s)
	})
}

// checkSteps holds both steps and Rot of a device against the document's bits.
func checkSteps(t *testing.T, f api.Flash, page, at int, s string) {
	has := flash.Check(f) == api.OK && page >= 0 && page < len(f.Pages)
	fits := has && at >= 0 && at+len(s) >= at && at+len(s) <= len(f.Pages[page])
	wantErase, wantProgram, wantRot := twin(f), twin(f), twin(f)
	dies := api.OK
	if f.Dead || f.Fuse == 0 {
		dies = api.ErrDead
	}
	whole := f
	whole.Torn = "\xff"
	if has && !f.Dead {
		if f.Fuse == 0 {
			whole.Torn = f.Torn
		} else {
			wantErase.Wear[page] = min(f.Wear[page]+1, api.MaxNum)
		}
		wantErase.Pages[page] = tornErase(f.Pages[page], whole.Torn)
		wantErase.Fuse, wantErase.Dead = lessOne(f.Fuse), f.Fuse == 0
	}
	if fits && !f.Dead {
		wantProgram.Pages[page] = tornProgram(f.Pages[page], at, s, whole.Torn)
		wantProgram.Fuse, wantProgram.Dead = lessOne(f.Fuse), f.Fuse == 0
	}
	if fits && len(s) <= 4 {
		turned := []byte(f.Pages[page])
		for i := range len(s) {
			turned[at+i] ^= s[i]
		}
		wantRot.Pages[page] = string(turned)
	}
	told := func(ok bool, e api.Errno) api.Errno {
		if !ok {
			return api.ErrArg
		}
		return e
	}
	if got, e := flash.Erase(f, page); e != told(has, dies) || !alike(got, wantErase) {
		t.Errorf("Erase(%v, %d): %v, %v, not %v", f, page, got, e, wantErase)
	}
	if got, e := flash.Program(f, page, at, s); e != told(fits, dies) || !alike(got, wantProgram) {
		t.Errorf("Program(%v, %d, %d, %q): %v, %v, not %v", f, page, at, s, got, e, wantProgram)
	}
	if got, e := flash.Rot(f, page, at, s); e != told(fits && len(s) <= 4, api.OK) || !alike(got, wantRot) {
		t.Errorf("Rot(%v, %d, %d, %q): %v, %v, not %v", f, page, at, s, got, e, wantRot)
	}
	if flash.Free(f, page) != (has && f.Pages[page] == strings.Repeat("\xff", len(f.Pages[page]))) {
		t.Errorf("Free(%v, %d): %v", f, page, flash.Free(f, page))
	}
}
