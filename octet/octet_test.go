package octet_test

import (
	"math"
	"strings"
	"testing"

	"ouroboros/api"
	"ouroboros/octet"
)

var wrongWidths = []int{math.MinInt, -8, -1, 0, 8, 9, 64, math.MaxInt}

// texts are the empty one, all bytes, short ones and one longer than any table.
func texts() []string {
	all := make([]byte, 256)
	for i := range all {
		all[i] = byte(i)
	}
	return []string{"", "\x00", "\xff", "\xa5\x5a", "a\x00b", "\xc3\x28\xed\xa0\x80", string(all), strings.Repeat("\x0f\xf0\x81", 50000)}
}

// powerOf256 is 256 to the power of width, by multiplying alone.
func powerOf256(width int) int {
	n := 1
	for range width {
		n *= 256
	}
	return n
}

func TestPutLowestFirst(t *testing.T) {
	for _, x := range []struct {
		n, width int
		want     string
	}{
		{258, 3, "\x02\x01\x00"},
		{0, 1, "\x00"},
		{0, 7, "\x00\x00\x00\x00\x00\x00\x00"},
		{128, 1, "\x80"},
		{256, 2, "\x00\x01"},
		{0x01020304, 4, "\x04\x03\x02\x01"},
		{0x01020304050607, 7, "\x07\x06\x05\x04\x03\x02\x01"},
	} {
		if s, e := octet.Put(x.n, x.width); s != x.want || e != api.OK {
			t.Errorf("Put(%d, %d): %q, %v, not %q", x.n, x.width, s, e, x.want)
		}
	}
}

func TestPutEdgesOfEachWidth(t *testing.T) {
	for width := 1; width <= 7; width++ {
		top := powerOf256(width)
		if s, e := octet.Put(top-1, width); s != strings.Repeat("\xff", width) || e != api.OK {
			t.Errorf("Put(%d, %d): %q, %v", top-1, width, s, e)
		}
		for _, n := range []int{top, top + 1, math.MaxInt, -1, -top, math.MinInt} {
			if s, e := octet.Put(n, width); s != "" || e != api.ErrArg {
				t.Errorf("Put(%d, %d): %q, %v, not ErrArg", n, width, s, e)
			}
		}
	}
}

func TestPutWrongWidth(t *testing.T) {
	for _, width := range wrongWidths {
		for _, n := range []int{math.MinInt, -1, 0, 1, math.MaxInt} {
			if s, e := octet.Put(n, width); s != "" || e != api.ErrArg {
				t.Errorf("Put(%d, %d): %q, %v, not ErrArg", n, width, s, e)
			}
		}
	}
}

func TestGetLowestFirst(t *testing.T) {
	for _, x := range []struct {
		s               string
		at, width, want int
	}{
		{"\x02\x01\x00", 0, 3, 258},
		{"\x02\x01\x00", 1, 1, 1},
		{"\x02\x01\x00", 1, 2, 1},
		{"\x02\x01\x00", 2, 1, 0},
		{"\xff\x80", 1, 1, 128},
		{"ab\xff\xff\xff\xff\xff\xff\xffcd", 2, 7, 1<<56 - 1},
		{"\x07\x06\x05\x04\x03\x02\x01", 0, 7, 0x01020304050607},
	} {
		if n, e := octet.Get(x.s, x.at, x.width); n != x.want || e != api.OK {
			t.Errorf("Get(%q, %d, %d): %d, %v, not %d", x.s, x.at, x.width, n, e, x.want)
		}
	}
}

func TestGetWhereBytesEnd(t *testing.T) {
	for width := 1; width <= 7; width++ {
		for size := range 10 {
			s := strings.Repeat("\x01", size)
			for at := -2; at <= size+2; at++ {
				n, e := octet.Get(s, at, width)
				if at >= 0 && at+width <= size {
					if e != api.OK || n == 0 {
						t.Errorf("Get of %d bytes at %d, %d: %d, %v", size, at, width, n, e)
					}
				} else if e != api.ErrForm || n != 0 {
					t.Errorf("Get of %d bytes at %d, %d: %d, %v, not ErrForm", size, at, width, n, e)
				}
			}
			for _, at := range []int{math.MinInt, math.MaxInt - width, math.MaxInt - 1, math.MaxInt} {
				if n, e := octet.Get(s, at, width); n != 0 || e != api.ErrForm {
					t.Errorf("Get of %d bytes at %d, %d: %d, %v, not ErrForm", size, at, width, n, e)
				}
			}
		}
	}
}

// R1: a wrong width is told ahead of a place that is wrong, too.
func TestGetWrongWidthFirst(t *testing.T) {
	for _, width := range wrongWidths {
		for _, at := range []int{math.MinInt, -1, 0, 1, 5, math.MaxInt} {
			for _, s := range []string{"", "ab", "abcdefghij"} {
				if n, e := octet.Get(s, at, width); n != 0 || e != api.ErrArg {
					t.Errorf("Get(%q, %d, %d): %d, %v, not ErrArg", s, at, width, n, e)
				}
			}
		}
	}
}

func TestPutIsGotAgain(t *testing.T) {
	for width := 1; width <= 7; width++ {
		top := powerOf256(width)
		numbers := []int{0, 1, top / 3, top - 2, top - 1}
		for bit := range 8 * width {
			numbers = append(numbers, 1<<bit, top-1-1<<bit)
		}
		for _, n := range numbers {
			s, e := octet.Put(n, width)
			if len(s) != width || e != api.OK {
				t.Fatalf("Put(%d, %d): %q, %v", n, width, s, e)
			}
			if m, e := octet.Get(s, 0, width); m != n || e != api.OK {
				t.Errorf("%d in %d bytes is got as %d, %v", n, width, m, e)
			}
			if m, e := octet.Get("\xff\xff\xff"+s+"\xff\xff", 3, width); m != n || e != api.OK {
				t.Errorf("%d in %d bytes among others is got as %d, %v", n, width, m, e)
			}
		}
	}
}

// bitwise is what the document says of And, Or and Xor, bit by bit; ones[i] tells what i ones of two bits come to.
func bitwise(a, b string, ones [3]byte) string {
	out := []byte(a)
	for i := 0; i < len(a) && i < len(b); i++ {
		out[i] = 0
		for bit := 0; bit < 8; bit++ {
			x, y := a[i]>>bit&1, b[i]>>bit&1
			out[i] |= ones[x+y] << bit
		}
	}
	return string(out)
}

func TestTwoBytesBitByBit(t *testing.T) {
	for _, x := range []struct {
		name string
		do   func(a, b string) string
		ones [3]byte
	}{
		{"And", octet.And, [3]byte{0, 0, 1}},
		{"Or", octet.Or, [3]byte{0, 1, 1}},
		{"Xor", octet.Xor, [3]byte{0, 1, 0}},
	} {
		for i := range 256 {
			for j := range 256 {
				a, b := string([]byte{byte(i)}), string([]byte{byte(j)})
				if got := x.do(a, b); got != bitwise(a, b, x.ones) {
					t.Fatalf("%s(%q, %q): %q", x.name, a, b, got)
				}
			}
		}
		for _, a := range texts() {
			for _, b := range texts() {
				if got := x.do(a, b); len(got) != len(a) || got != bitwise(a, b, x.ones) {
					t.Errorf("%s of %d and %d bytes is wrong", x.name, len(a), len(b))
				}
			}
		}
	}
}

func TestBytesWithoutPartnerStay(t *testing.T) {
	for name, do := range map[string]func(a, b string) string{"And": octet.And, "Or": octet.Or, "Xor": octet.Xor} {
		if got := do("\x00\x12\xff", ""); got != "\x00\x12\xff" {
			t.Errorf("%s with nothing: %q", name, got)
		}
		if got := do("", "\x00\x12\xff"); got != "" {
			t.Errorf("%s of nothing: %q", name, got)
		}
		if got := do("\x00\x12\xff", "\x00"); got != "\x00\x12\xff" {
			t.Errorf("%s with one byte of noughts: %q", name, got)
		}
	}
}

func TestNot(t *testing.T) {
	for i := range 256 {
		if got := octet.Not(string([]byte{byte(i), 0})); got != string([]byte{byte(255 - i), 255}) {
			t.Errorf("Not of byte %d: %q", i, got)
		}
	}
	for _, s := range texts() {
		if got := octet.Not(octet.Not(s)); got != s {
			t.Errorf("%d bytes turned twice are not as they were", len(s))
		}
		if got := octet.Not(s); len(got) != len(s) || len(s) > 0 && got == s {
			t.Errorf("%d bytes turned are %d bytes", len(s), len(got))
		}
	}
}

// Not has no bound such as Ones has.
func TestNotOfMoreThanOnesTells(t *testing.T) {
	for _, n := range []int{100000, 100001, 300000} {
		if octet.Not(strings.Repeat("\x00", n)) != strings.Repeat("\xff", n) {
			t.Errorf("Not of %d bytes is wrong", n)
		}
	}
}

func TestOnes(t *testing.T) {
	for _, n := range []int{0, 1, 2, 99, 8192, 99999, 100000} {
		if octet.Ones(n) != strings.Repeat("\xff", n) {
			t.Errorf("Ones(%d) is wrong", n)
		}
	}
	for _, n := range []int{math.MinInt, -100000, -1, 100001, 1 << 40, math.MaxInt} {
		if s := octet.Ones(n); s != "" {
			t.Errorf("Ones(%d): %d bytes, not none", n, len(s))
		}
	}
}

func TestCount(t *testing.T) {
	if n := octet.Count(""); n != 0 {
		t.Errorf("Count of nothing: %d", n)
	}
	for i := range 256 {
		want := 0
		for x := i; x > 0; x /= 2 {
			want += x % 2
		}
		if n := octet.Count(string([]byte{byte(i), 0, 255})); n != want+8 {
			t.Errorf("Count with byte %d: %d, not %d", i, n, want+8)
		}
	}
	if n := octet.Count(octet.Ones(100000)); n != 800000 {
		t.Errorf("Count of 100000 bytes of ones: %d", n)
	}
	for _, s := range texts() {
		if n := octet.Count(s) + octet.Count(octet.Not(s)); n != 8*len(s) {
			t.Errorf("ones and noughts of %d bytes: %d", len(s), n)
		}
	}
}

// P1: whatever is asked, all calls end, none panics, and beside an error stands a zero value.
func FuzzAllCalls(f *testing.F) {
	f.Add("", "", 0, 0)
	f.Add("ab", "\xff\x00\x7f", 1, 2)
	f.Add("abcdefg", "a", math.MaxInt, 7)
	f.Add("abcdefg", "a", math.MinInt, -1)
	f.Fuzz(func(t *testing.T, a, b string, n, width int) {
		s, e := octet.Put(n, width)
		if e != api.OK && (e != api.ErrArg || s != "") {
			t.Errorf("Put(%d, %d): %q, %v", n, width, s, e)
		}
		if m, e2 := octet.Get(s, 0, width); e == api.OK && (m != n || e2 != api.OK) {
			t.Errorf("%d in %d bytes is got as %d, %v", n, width, m, e2)
		}
		m, e := octet.Get(a, n, width)
		if e != api.OK && (e != api.ErrArg && e != api.ErrForm || m != 0) {
			t.Errorf("Get(%q, %d, %d): %d, %v", a, n, width, m, e)
		}
		if octet.And(a, b) != bitwise(a, b, [3]byte{0, 0, 1}) || octet.Or(a, b) != bitwise(a, b, [3]byte{0, 1, 1}) || octet.Xor(a, b) != bitwise(a, b, [3]byte{0, 1, 0}) {
			t.Errorf("%q and %q: bits are wrong", a, b)
		}
		if octet.Xor(octet.Xor(a, b), b) != a || octet.Not(octet.Not(a)) != a {
			t.Errorf("%q and %q: turned twice they are not as they were", a, b)
		}
		if got := octet.Ones(n); n >= 0 && n <= 100000 && len(got) != n || (n < 0 || n > 100000) && got != "" {
			t.Errorf("Ones(%d): %d bytes", n, len(got))
		}
		if octet.Count(a)+octet.Count(octet.Not(a)) != 8*len(a) {
			t.Errorf("Count of %q", a)
		}
	})
}

// R4: the same call tells the same, whatever was called in between.
func TestSameCallTellsTheSame(t *testing.T) {
	first, e := octet.Put(77777, 3)
	other, _ := octet.Put(1, 3)
	again, e2 := octet.Put(77777, 3)
	if first != again || e != e2 || first == other {
		t.Errorf("Put(77777, 3): %q, %v, then %q, %v", first, e, again, e2)
	}
	turned := octet.Not("abc")
	octet.Not("xyz")
	octet.Xor(turned, "\xff\xff\xff")
	if turned != "\x9e\x9d\x9c" || octet.Not("abc") != turned {
		t.Errorf("Not(abc): %q, then %q", turned, octet.Not("abc"))
	}
}
