package crc_test

import (
	"hash/crc32"
	"math"
	"strings"
	"sync"
	"testing"

	"ouroboros/api"
	"ouroboros/crc"
)

const top = 1 << 32

// texts are the empty one, all bytes, short ones and one longer than any table.
func texts() []string {
	all := make([]byte, 256)
	for i := range all {
		all[i] = byte(i)
	}
	return []string{"", "\x00", "\xff", "a", "\x00\x00\x00\x00", "\xff\xff\xff\xff", "123456789", "\xc3\x28\xed\xa0\x80", string(all), strings.Repeat("\x0f\xf0\x81", 50000)}
}

// bitByBit is what the document says of the sum, word by word.
func bitByBit(s string) int {
	number := uint32(0xFFFFFFFF)
	for i := 0; i < len(s); i++ {
		for bit := 0; bit < 8; bit++ {
			was := number&1 ^ uint32(s[i])>>bit&1
			number >>= 1
			if was == 1 {
				number ^= 0xEDB88320
			}
		}
	}
	return int(^number)
}

// withSum is a text of 4 bytes behind head, so that all of it has this sum: the bits are gone through backward.
func withSum(head string, sum uint32) string {
	number := ^sum
	for range 32 {
		if number>>31 == 1 {
			number = (number^0xEDB88320)<<1 | 1
		} else {
			number <<= 1
		}
	}
	number ^= ^uint32(bitByBit(head))
	return head + string([]byte{byte(number), byte(number >> 8), byte(number >> 16), byte(number >> 24)})
}

func TestSumOfKnownTexts(t *testing.T) {
	for s, want := range map[string]int{
		"":                 0,
		"123456789":        3421780262,
		"a":                0xe8b7be43,
		"\x00":             0xd202ef8d,
		"\x00\x00\x00\x00": 0x2144df1c,
		"\xff\xff\xff\xff": 0xffffffff,
		"The quick brown fox jumps over the lazy dog": 0x414fa339,
	} {
		if n := crc.Sum(s); n != want {
			t.Errorf("Sum(%q): %d, not %d", s, n, want)
		}
	}
}

func TestSumBitByBit(t *testing.T) {
	for i := range 256 {
		for j := range 256 {
			s := string([]byte{byte(i), byte(j)})
			if crc.Sum(s) != bitByBit(s) || crc.Sum(s[:1]) != bitByBit(s[:1]) {
				t.Fatalf("Sum(%q): %d, not %d", s, crc.Sum(s), bitByBit(s))
			}
		}
	}
	for _, s := range texts() {
		n := crc.Sum(s)
		if n != bitByBit(s) || n != int(crc32.ChecksumIEEE([]byte(s))) {
			t.Errorf("Sum of %d bytes: %d, not %d", len(s), n, bitByBit(s))
		}
	}
}

// A number of more than 31 bits is told as such, not as one below 0.
func TestSumInItsRange(t *testing.T) {
	for _, sum := range []uint32{0, 1, 1<<31 - 1, 1 << 31, 1<<32 - 2, 1<<32 - 1} {
		for _, head := range []string{"", "a", "ouroboros"} {
			if n := crc.Sum(withSum(head, sum)); n != int(sum) {
				t.Errorf("Sum of a text with sum %d: %d", sum, n)
			}
		}
	}
}

func TestAddIsSumOfBoth(t *testing.T) {
	for _, s := range texts() {
		for _, more := range texts() {
			if n, e := crc.Add(crc.Sum(s), more); n != crc.Sum(s+more) || e != api.OK {
				t.Errorf("Add of %d and %d bytes: %d, %v", len(s), len(more), n, e)
			}
		}
	}
	const s = "a ring of nodes"
	for at := range len(s) + 1 {
		if n, e := crc.Add(crc.Sum(s[:at]), s[at:]); n != crc.Sum(s) || e != api.OK {
			t.Errorf("Add(%q, %q): %d, %v", s[:at], s[at:], n, e)
		}
	}
}

// Any sum in the range is some text's; whichever text it is, what comes behind it makes the same sum.
func TestAddToAnySum(t *testing.T) {
	for _, sum := range []int{0, 1, 255, 256, 0x12345678, 1<<31 - 1, 1 << 31, 0xEDB88320, top - 2, top - 1} {
		for _, more := range texts() {
			n, e := crc.Add(sum, more)
			if e != api.OK {
				t.Errorf("Add(%d, %d bytes): %d, %v", sum, len(more), n, e)
			}
			for _, head := range []string{"", "x", "another"} {
				if want := bitByBit(withSum(head, uint32(sum)) + more); n != want {
					t.Errorf("Add(%d, %d bytes): %d, not %d", sum, len(more), n, want)
				}
			}
		}
		if n, e := crc.Add(sum, ""); n != sum || e != api.OK {
			t.Errorf("Add(%d, nothing): %d, %v", sum, n, e)
		}
	}
}

func TestAddWrongSum(t *testing.T) {
	for _, sum := range []int{math.MinInt, -top, -top + 1, -1, top, top + 1, 2*top - 1, math.MaxInt} {
		for _, s := range texts() {
			if n, e := crc.Add(sum, s); n != 0 || e != api.ErrArg {
				t.Errorf("Add(%d, %d bytes): %d, %v, not ErrArg", sum, len(s), n, e)
			}
		}
	}
}

func TestSealLowestFirst(t *testing.T) {
	for s, want := range map[string]string{
		"":                 "\x00\x00\x00\x00",
		"123456789":        "123456789\x26\x39\xf4\xcb",
		"\xff\xff\xff\xff": "\xff\xff\xff\xff\xff\xff\xff\xff",
		"a":                "a\x43\xbe\xb7\xe8",
	} {
		if got := crc.Seal(s); got != want {
			t.Errorf("Seal(%q): %q, not %q", s, got, want)
		}
	}
}

// What is sealed opens, also where it is a seal itself.
func TestSealedOpens(t *testing.T) {
	for _, s := range texts() {
		for range 3 {
			sealed := crc.Seal(s)
			if len(sealed) != len(s)+4 {
				t.Errorf("Seal of %d bytes: %d", len(s), len(sealed))
			}
			if got, e := crc.Open(sealed); got != s || e != api.OK {
				t.Errorf("a seal of %d bytes opens as %d bytes, %v", len(s), len(got), e)
			}
			s = sealed
		}
	}
}

func refused(s string) bool {
	got, e := crc.Open(s)
	return got == "" && e == api.ErrForm
}

func TestOpenNoSeal(t *testing.T) {
	for _, s := range []string{
		"", "\x00", "\x00\x00", "\x00\x00\x00", "abc",
		"\x00\x00\x00\x01", "\xff\xff\xff\xff", "\x00\x00\x00\x00\x00",
		"123456789", "123456789\xcb\xf4\x39\x26", "123456789\x26\x39\xf4", "\x26\x39\xf4\xcb123456789",
		"123456789\xd9\xc6\x0b\x34",
	} {
		if !refused(s) {
			t.Errorf("%q is opened", s)
		}
	}
	for _, s := range texts() {
		sealed := crc.Seal(s)
		for cut := 1; cut <= 3; cut++ {
			if !refused(sealed[:len(sealed)-cut]) {
				t.Errorf("a seal of %d bytes without its last %d is opened", len(s), cut)
			}
		}
		if !refused(sealed + "\x00") {
			t.Errorf("a seal of %d bytes and one more is opened", len(s))
		}
	}
}

// turned is s with the bits of four bytes from place at on turned, as far as s has such bytes.
func turned(s string, at int, bits uint32) string {
	out := []byte(s)
	for i := 0; i < 4 && at+i < len(s); i++ {
		out[at+i] ^= byte(bits >> (8 * i))
	}
	return string(out)
}

func turnings() []uint32 {
	out := []uint32{0xFFFFFFFF, 0xEDB88320, 0xDB710641, 0x04C11DB7, 0x80000001, 0x01000080}
	for i := range 32 {
		out = append(out, 1<<i)
		for j := range i {
			out = append(out, 1<<i|1<<j)
		}
	}
	for i := range 256 {
		out = append(out, uint32(i), uint32(i)<<24|uint32(255-i))
	}
	for i, bits := 0, uint32(1); i < 2000; i++ {
		bits = bits*1664525 + 1013904223
		out = append(out, bits)
	}
	return out
}

// Wherever bytes that stand next to each other are turned, in the text or in the sum, what was sealed does not open.
func TestTurnedDoesNotOpen(t *testing.T) {
	for _, s := range []string{"", "\x00", "ouroboros", strings.Repeat("\xff", 42), strings.Repeat("\x00", 42)} {
		sealed := crc.Seal(s)
		for at := range len(sealed) {
			for _, bits := range turnings() {
				other := turned(sealed, at, bits)
				if other != sealed && !refused(other) {
					t.Fatalf("%q opens, as %q does", other, sealed)
				}
			}
		}
	}
}

// Two texts may have one sum: with it, each is sealed.
func TestTextsOfOneSumOpen(t *testing.T) {
	a, b := withSum("", 7), withSum("x", 7)
	if crc.Sum(a) != crc.Sum(b) || a == b {
		t.Fatalf("%q and %q: not two texts of one sum", a, b)
	}
	for _, s := range []string{a, b} {
		if got, e := crc.Open(s + "\x07\x00\x00\x00"); got != s || e != api.OK {
			t.Errorf("Open of %q and its sum: %q, %v", s, got, e)
		}
	}
}

// A short text and a long one, also added, as only that one takes the table.
func TestManyAskAtOnce(t *testing.T) {
	long := strings.Repeat("123456789", 500)
	want := bitByBit(long)
	var all sync.WaitGroup
	wrong := make([]int, 16)
	for i := range wrong {
		all.Add(1)
		go func() {
			defer all.Done()
			for range 20 {
				added, _ := crc.Add(0, long)
				if crc.Sum("123456789") != 3421780262 || crc.Sum(long) != want || added != want {
					wrong[i]++
				}
			}
		}()
	}
	all.Wait()
	for i, n := range wrong {
		if n > 0 {
			t.Errorf("asker %d: %d wrong sums", i, n)
		}
	}
}

// R4: the same call tells the same, whatever was called in between.
func TestSameCallTellsTheSame(t *testing.T) {
	sum, sealed := crc.Sum("abc"), crc.Seal("abc")
	crc.Sum("xyz")
	crc.Add(-1, "q")
	crc.Add(5, "q")
	crc.Open("no seal")
	if crc.Sum("abc") != sum || crc.Seal("abc") != sealed || sealed[:3] != "abc" {
		t.Errorf("Sum and Seal of abc: %d, %q, then %d, %q", sum, sealed, crc.Sum("abc"), crc.Seal("abc"))
	}
}

// P1: whatever is asked, all calls end, none panics, and beside an error stands a zero value.
func FuzzAllCalls(f *testing.F) {
	f.Add("", "", 0)
	f.Add("123456789", "\x26\x39\xf4\xcb", -1)
	f.Add("abc", "", top-1)
	f.Add("abc", "\xff", top)
	f.Fuzz(func(t *testing.T, a, b string, sum int) {
		if n := crc.Sum(a); n != int(crc32.ChecksumIEEE([]byte(a))) {
			t.Errorf("Sum(%q): %d", a, n)
		}
		if n, e := crc.Add(crc.Sum(a), b); n != crc.Sum(a+b) || e != api.OK {
			t.Errorf("Add(%q, %q): %d, %v", a, b, n, e)
		}
		isSum := sum >= 0 && sum < top
		n, e := crc.Add(sum, a)
		if isSum && (e != api.OK || n < 0 || n >= top) || !isSum && (e != api.ErrArg || n != 0) {
			t.Errorf("Add(%d, %q): %d, %v", sum, a, n, e)
		}
		if got, e := crc.Open(crc.Seal(a)); got != a || e != api.OK {
			t.Errorf("the seal of %q opens as %q, %v", a, got, e)
		}
		got, e := crc.Open(a + b)
		if e == api.OK && crc.Seal(got) != a+b || e != api.OK && (e != api.ErrForm || got != "") {
			t.Errorf("Open(%q): %q, %v", a+b, got, e)
		}
	})
}
