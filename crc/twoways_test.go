package crc

import (
	"hash/crc32"
	"testing"

	"ouroboros/api"
)

// mixed is a text of n bytes, all of them kinds of bytes, in no plain order.
func mixed(n int) string {
	out := make([]byte, n)
	for i, bits := 0, uint32(n)+1; i < n; i++ {
		bits = bits*1664525 + 1013904223
		out[i] = byte(bits >> 24)
	}
	return string(out)
}

// lengths are those on both sides of where one way ends and the other begins, and some far from there.
func lengths() []int {
	out := []int{0, 1, 2, 3, 4, 8, 42, 255, 256, 257, 2 * maxShort, 2*maxShort + 1, 8192, 100000}
	for n := maxShort - 8; n <= maxShort+8; n++ {
		out = append(out, n)
	}
	return out
}

func library(s string) int { return int(crc32.ChecksumIEEE([]byte(s))) }

func TestBothWaysAnswerTheSame(t *testing.T) {
	for _, n := range lengths() {
		s := mixed(n)
		for _, number := range []uint32{0, 1, 1<<31 - 1, 1 << 31, turner, 1<<32 - 2, 1<<32 - 1} {
			if a, b := byBits(number, s), byTable(number, s); a != b {
				t.Errorf("%d bytes behind number %d: %d bit by bit, %d by the table", n, number, a, b)
			}
		}
	}
	for first := range 256 {
		for second := range 256 {
			s := string([]byte{byte(first), byte(second)})
			if a, b := byBits(0, s), byTable(0, s); a != b {
				t.Fatalf("%q: %d bit by bit, %d by the table", s, a, b)
			}
		}
	}
}

func TestCallsOnBothSides(t *testing.T) {
	for _, n := range lengths() {
		s := mixed(n)
		if got := Sum(s); got != library(s) {
			t.Errorf("Sum of %d bytes: %d, not %d", n, got, library(s))
		}
		for _, m := range []int{0, 1, maxShort - 1, maxShort, maxShort + 1} {
			more := mixed(m)
			if got, e := Add(library(s), more); got != library(s+more) || e != api.OK {
				t.Errorf("Add of %d and %d bytes: %d, %v", n, m, got, e)
			}
		}
		for _, sum := range []int{-1, maxSum + 1} {
			if got, e := Add(sum, s); got != 0 || e != api.ErrArg {
				t.Errorf("Add(%d, %d bytes): %d, %v", sum, n, got, e)
			}
		}
	}
}

func TestSealsOnBothSides(t *testing.T) {
	for _, n := range lengths() {
		s := mixed(n)
		sealed := Seal(s)
		if got, e := Open(sealed); got != s || e != api.OK {
			t.Errorf("a seal of %d bytes opens as %d bytes, %v", n, len(got), e)
		}
		for _, at := range []int{0, n / 2, n, n + 3} {
			other := []byte(sealed)
			other[at] ^= 1 << (at % 8)
			if got, e := Open(string(other)); got != "" || e != api.ErrForm {
				t.Errorf("a seal of %d bytes, turned at %d, opens as %d bytes, %v", n, at, len(got), e)
			}
		}
	}
}

// withoutTable does something while the table is wrong, so that what is taken out of it is wrong as well.
func withoutTable(do func()) {
	made.Do(makeTable)
	right := afterByte
	afterByte = [256]uint32{}
	defer func() { afterByte = right }()
	do()
}

func TestOnlyLongTextsThatAreAddedTakeTheTable(t *testing.T) {
	withoutTable(func() {
		for _, n := range lengths() {
			s := mixed(n)
			for _, sum := range []int{0, maxSum, library("head")} {
				got, e := Add(sum, s)
				want := int(crc32.Update(uint32(sum), crc32.IEEETable, []byte(s)))
				if right := got == want; right != (n <= maxShort) || e != api.OK {
					t.Errorf("Add(%d, %d bytes) without the table is right: %v", sum, n, right)
				}
			}
		}
	})
}

// Sum, Seal and Open take nothing out of the table, whatever the length: so goroutines may ask for them at once.
func TestNoOtherCallTakesTheTable(t *testing.T) {
	withoutTable(func() {
		for _, n := range lengths() {
			s := mixed(n)
			sum := library(s)
			if got := Sum(s); got != sum {
				t.Errorf("Sum of %d bytes without the table: %d, not %d", n, got, sum)
			}
			sealed := s + string([]byte{byte(sum), byte(sum >> 8), byte(sum >> 16), byte(sum >> 24)})
			if Seal(s) != sealed {
				t.Errorf("the seal of %d bytes takes the table", n)
			}
			if got, e := Open(sealed); got != s || e != api.OK {
				t.Errorf("Open of a seal of %d bytes without the table: %d bytes, %v", n, len(got), e)
			}
		}
	})
}

// A text's sum is worked out by the function, and what is added to nought is read out of the table where it is long: both are the same number.
func TestSumIsWhatIsAddedToNought(t *testing.T) {
	for _, n := range lengths() {
		s := mixed(n)
		if got, e := Add(0, s); got != Sum(s) || e != api.OK {
			t.Errorf("Add(0, %d bytes): %d, %v; Sum is %d", n, got, e, Sum(s))
		}
	}
}
