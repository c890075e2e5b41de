package book_test

import (
	"math"
	"strings"
	"testing"

	"ouroboros/api"
	"ouroboros/book"
)

// withByte is s, in which byte at is b.
func withByte(s string, at int, b byte) string { return s[:at] + string([]byte{b}) + s[at+1:] }

func TestClean(t *testing.T) {
	free, zeroed := pageOf(5), noughts(place)
	x, y := torn(noughts(size)), strings.Repeat("x", place)
	for _, c := range []struct {
		was, want string
		count     int
	}{
		{free, free, 0},
		{pageOf(5, mark(100, 1), written(reg("a", 1)), mark(101, 1)), pageOf(5, mark(100, 1), written(reg("a", 1)), mark(101, 1)), 0},
		{pageOf(5, zeroed, ones(place), zeroed), pageOf(5, zeroed, ones(place), zeroed), 0},
		{pageOf(5, x), pageOf(5, zeroed), 1},
		{pageOf(5, mark(100, 1), x, written(reg("a", 1)), ones(place), y), pageOf(5, mark(100, 1), zeroed, written(reg("a", 1)), ones(place), zeroed), 2},
		{pageOf(5, x, y, x, y, x), pageOf(5, zeroed, zeroed, zeroed, zeroed, zeroed), 5},
		{pageOf(5, ones(4*place), x), pageOf(5, ones(4*place), zeroed), 1},
		{pageOf(5, recordOf(noughts(size)), recordOf(ones(size)), recordOf(markOf(102, 0))), pageOf(5, recordOf(noughts(size)), recordOf(ones(size)), recordOf(markOf(102, 0))), 0},
	} {
		for n := range 3 {
			was, want := []string{pageOf(5, x), pageOf(5, y), pageOf(5, x, y)}, []string{pageOf(5, x), pageOf(5, y), pageOf(5, x, y)}
			was[n], want[n] = c.was, c.want
			f := worn(device(was...), 3, 4, 5)
			got, count, no := book.Clean(f, n)
			if no != api.OK || count != c.count || !alike(got, worn(device(want...), 3, 4, 5)) {
				t.Errorf("Clean of page %d: %d, %v, not %d", n, count, no, c.count)
			}
			if again, count, no := book.Clean(got, n); no != api.OK || count != 0 || !alike(again, got) {
				t.Errorf("Clean of page %d again: %d, %v", n, count, no)
			}
			if _, spoilt := book.Load(got, api.Book{Head: n}, 2); spoilt != 0 {
				t.Errorf("page %d is cleaned, and has %d spoilt places", n, spoilt)
			}
		}
	}
}

func TestCleanOfOtherSizes(t *testing.T) {
	// Bytes behind the last whole place stay; a page without a place has none that is spoilt.
	for _, text := range []string{"x", "\x00", strings.Repeat("x", place-1)} {
		if got, n, no := book.Clean(device(text), 0); no != api.OK || n != 0 || got.Pages[0] != text {
			t.Errorf("a page of %d bytes: %d, %v", len(text), n, no)
		}
		if got, n, no := book.Clean(device(strings.Repeat("x", 2*place)+text), 0); no != api.OK || n != 2 || got.Pages[0] != noughts(2*place)+text {
			t.Errorf("a page of two places and %d bytes: %d, %v", len(text), n, no)
		}
	}
	f := awake(device(strings.Repeat("x", 8192)), 1000, "")
	if got, n, no := book.Clean(f, 0); no != api.OK || n != 89 || got.Pages[0] != noughts(89*place)+"xxxx" || 1000-got.Fuse != 89 {
		t.Errorf("89 spoilt places: %d, %v", n, no)
	}
}

func TestCleanOfWhatThereIsNot(t *testing.T) {
	refused := func(f api.Flash, n int) {
		t.Helper()
		if got, count, no := book.Clean(f, n); no != api.ErrArg || count != 0 || !alike(got, f) {
			t.Errorf("Clean(%v, %d): %d, %v", f, n, count, no)
		}
	}
	x := pageOf(5, torn(noughts(size)))
	for _, f := range []api.Flash{device(x, x, x), awake(device(x, x, x), 0, "\xff"), {Pages: []string{x, x, x}, Wear: []int{0, 0, 0}, Dead: true}} {
		for _, n := range []int{math.MinInt, -2, -1, 3, 4, 6, 256, 1 << 32, math.MaxInt} {
			refused(f, n)
		}
	}
	for _, f := range noDevices() {
		for _, n := range []int{-1, 0, 1, 6} {
			refused(f, n)
		}
	}
}

// firstStep is where just one bit of that place is cleared ahead of all; each place stands second in its page.
type firstStep struct {
	name, at string
	byteAt   int
	bit      byte
}

// firstSteps are places whose halves differ first at the first bit, at the last one, and between.
func firstSteps() []firstStep {
	clear := ones(place)
	later := withByte(withByte(withByte(clear, 5, 0x0f), half+5, 0xf7), 30, 0)
	return []firstStep{
		{"first, in the first half", withByte(clear, half, 0xfe), 0, 0x01},
		{"first, in the second half", withByte(clear, 0, 0xfe), half, 0x01},
		{"last, in the first half", withByte(clear, place-1, 0x7f), half - 1, 0x80},
		{"last, in the second half", withByte(clear, half-1, 0x7f), place - 1, 0x80},
		{"the lowest bit of a byte of many", withByte(clear, 7, 0x03), half + 7, 0x04},
		{"a byte in the middle", withByte(clear, half+20, 0xef), 20, 0x10},
		{"all differ, and are no record", noughts(half) + ones(half), half, 0x01},
		{"all differ the other way round", ones(half) + noughts(half), 0, 0x01},
		// Bit 3 of byte 5 stands ahead of bits 4 to 7 of it, and of byte 30.
		{"in both halves", withByte(later, 5, 0x0f), 5, 0x08},
	}
}

// Each step is watched on its own: a fuse of 1 lets the first one be done, and tears the second one, of which no bit is done.
func TestFirstStepsOfClean(t *testing.T) {
	for _, x := range firstSteps() {
		front := mark(101, 3)
		f := device(pageOf(5, front, x.at), pageOf(5), pageOf(5))
		cleared := withByte(x.at, x.byteAt, x.at[x.byteAt]&^x.bit)
		want := api.Flash{Pages: []string{pageOf(5, front, cleared), pageOf(5), pageOf(5)}, Wear: f.Wear, Dead: true}
		if got, n, no := book.Clean(awake(f, 1, ""), 0); no != api.ErrDead || n != 0 || !alike(got, want) {
			t.Errorf("%s: %d, %v, %q", x.name, n, no, got.Pages[0])
		}
		want.Pages[0] = pageOf(5, front, x.at)
		if got, n, no := book.Clean(awake(f, 0, ""), 0); no != api.ErrDead || n != 0 || !alike(got, want) {
			t.Errorf("%s, dead at once: %d, %v", x.name, n, no)
		}
		want = device(pageOf(5, front, noughts(place)), pageOf(5), pageOf(5))
		want.Fuse = 7
		if got, n, no := book.Clean(awake(f, 9, ""), 0); no != api.OK || n != 1 || !alike(got, want) {
			t.Errorf("%s, in two steps: %d, %v, fuse %d", x.name, n, no, got.Fuse)
		}
	}
}

// Where both are 0 somewhere, wherever that is, there is one step alone.
func TestCleanInOneStep(t *testing.T) {
	var all []string
	for at := range half {
		for bit := range 8 {
			left := byte(255 - 1<<bit)
			both := withByte(withByte(ones(place), at, left), half+at, left)
			all = append(all, both, withByte(both, 12, 0), withByte(both, place-1, both[place-1]&0x7f), withByte(both, half, both[half]&0xfe))
		}
	}
	record := written(reg("a", 1))
	for _, at := range append(all, strings.Repeat("x", place), record[:half]+record[:half], withByte(noughts(place), 3, 4)) {
		f := device(pageOf(5, mark(101, 3), at))
		want := device(pageOf(5, mark(101, 3), noughts(place)))
		want.Fuse = 4
		if got, n, no := book.Clean(awake(f, 5, ""), 0); no != api.OK || n != 1 || !alike(got, want) {
			t.Errorf("%q: %d, %v, fuse %d", at, n, no, got.Fuse)
		}
	}
}

// With an error those are told that were ahead.
func TestCleanTellsHowManyWere(t *testing.T) {
	x, y := torn(noughts(size)), strings.Repeat("x", place)
	f := device(pageOf(5, x, y, mark(101, 3), x, y))
	for fuse, want := range []int{0, 0, 1, 2, 2, 3} {
		if _, n, no := book.Clean(awake(f, fuse, "\xff"), 0); no != api.ErrDead || n != want {
			t.Errorf("%d steps: %d, %v, not %d", fuse, n, no, want)
		}
	}
	if got, n, no := book.Clean(awake(f, 6, ""), 0); no != api.OK || n != 4 || got.Fuse != 0 || got.Dead {
		t.Errorf("6 steps: %d, %v", n, no)
	}
	dead := api.Flash{Pages: f.Pages, Wear: f.Wear, Fuse: 3, Dead: true}
	if got, n, no := book.Clean(dead, 0); no != api.ErrDead || n != 0 || !alike(got, dead) {
		t.Errorf("dead: %d, %v", n, no)
	}
	dead.Pages = []string{pageOf(5, mark(101, 3), noughts(place))}
	if got, n, no := book.Clean(dead, 0); no != api.OK || n != 0 || !alike(got, dead) {
		t.Errorf("dead, with nothing that is spoilt: %d, %v", n, no)
	}
}

// A record that lacks one bit, or two, comes to be none, whichever bits of Clean are torn: also just those that it lacks.
func TestTornPlacesComeToBeNoRecords(t *testing.T) {
	for _, payload := range []string{bytesOf(reg("a", 7)), bytesOf(counter("c", 1, 2)), markOf(101, 9), noughts(size)} {
		record := recordOf(payload)
		for at := range place {
			for bit := range 8 {
				if record[at]>>bit&1 == 1 {
					continue
				}
				left := withByte(record, at, record[at]|1<<bit)
				checkNoRecord(t, left, map[int]byte{at: 1 << bit})
				other := (at*7 + 13) % place
				more := ^record[other] & -(^record[other])
				checkNoRecord(t, withByte(left, other, left[other]|more), map[int]byte{at: 1 << bit, other: more})
			}
		}
	}
}

// checkNoRecord tears each step of Clean of that place so that just those bits are done, and those that stand as far on in Torn.
func checkNoRecord(t *testing.T, at string, bits map[int]byte) {
	t.Helper()
	f := device(pageOf(2, at))
	torn := make([]byte, 64)
	for i, b := range bits {
		torn[i%64] |= b
	}
	for fuse := range 3 {
		got, _, _ := book.Clean(awake(f, fuse, string(torn)), 0)
		if s := sightOf(got.Pages[0]); s.gen != 0 || s.whole || len(s.entries) != 0 || got.Pages[0][:place] == recordOf(got.Pages[0][:size]) {
			t.Fatalf("%q, torn behind %d steps: %q", at, fuse, got.Pages[0])
		}
		if b := book.Find(got); b != (api.Book{Head: -1}) {
			t.Fatalf("%q, torn behind %d steps: %v", at, fuse, b)
		}
	}
}
