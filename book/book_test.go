package book_test

import (
	"math"
	"slices"
	"strings"
	"testing"

	"ouroboros/api"
	"ouroboros/arena"
	"ouroboros/book"
	"ouroboros/flash"
)

// noDevices are devices that may not be.
func noDevices() []api.Flash {
	text := pageOf(5, mark(100, 1), written(reg("k", 1)), mark(101, 1))
	three := func() api.Flash { return device(text, pageOf(5), pageOf(5)) }
	out := []api.Flash{
		{}, {Fuse: -1}, device(), device("", "", ""),
		device(text, pageOf(5), pageOf(4)), device(text, pageOf(5), pageOf(6)), device(text, text[1:], text),
		device(slices.Repeat([]string{text}, 7)...), device(slices.Repeat([]string{ones(8193)}, 3)...),
	}
	for _, wear := range [][]int{nil, {0, 0}, {0, 0, 0, 0}, {-1, 0, 0}, {0, 0, maxNum + 1}, {0, math.MinInt, 0}} {
		out = append(out, worn(three(), wear...))
	}
	return append(out, awake(three(), -1, strings.Repeat("x", 65)))
}

func TestNoDevices(t *testing.T) {
	for _, f := range noDevices() {
		if flash.Check(f) != api.ErrArg {
			t.Errorf("%v may be", f)
		}
	}
}

func TestMark(t *testing.T) {
	for _, x := range []struct {
		kind, gen int
		want      string
	}{
		{100, 1, "d\x01\x00\x00\x00"},
		{101, 1, "e\x01\x00\x00\x00"},
		{100, 255, "d\xff\x00\x00\x00"},
		{101, 256, "e\x00\x01\x00\x00"},
		{100, 65536, "d\x00\x00\x01\x00"},
		{101, 0x12345678, "e\x78\x56\x34\x12"},
		{100, 2147483646, "d\xfe\xff\xff\x7f"},
		{100, 2147483647, "d\xff\xff\xff\x7f"},
		{101, 2147483647, "e\xff\xff\xff\x7f"},
	} {
		if got, no := book.Mark(x.kind, x.gen); got != x.want+strings.Repeat("\x00", 37) || no != api.OK {
			t.Errorf("Mark(%d, %d): %q, %v", x.kind, x.gen, got, no)
		}
	}
}

func TestMarksThatThereAreNot(t *testing.T) {
	gens := []int{math.MinInt, -1 << 32, -1, 0, 1, 2147483647, 2147483648, 1 << 32, 1<<32 + 1, math.MaxInt}
	for _, kind := range []int{math.MinInt, -156, -155, -101, -100, -1, 0, 1, 2, 3, 99, 100, 101, 102, 255, 256, 356, 357, 1<<32 + 100, 1<<32 + 101, math.MaxInt} {
		for _, gen := range gens {
			may := (kind == 100 || kind == 101) && gen >= 1 && gen <= maxNum
			got, no := book.Mark(kind, gen)
			if may && (got != markOf(kind, gen) || no != api.OK) || !may && (got != "" || no != api.ErrArg) {
				t.Errorf("Mark(%d, %d): %q, %v", kind, gen, got, no)
			}
		}
	}
}

func TestFindOfANewDevice(t *testing.T) {
	for pages := 1; pages <= 6; pages++ {
		for _, size := range []int{1, 91, 92, 460, 8192} {
			f, _ := flash.New(pages, size)
			if got := book.Find(f); got != (api.Book{Head: -1, Gen: 0}) {
				t.Errorf("%d pages of %d bytes: %v", pages, size, got)
			}
		}
	}
}

func TestFind(t *testing.T) {
	free, entries := pageOf(5), pageOf(5, written(reg("k", 1)), written(reg("l", 2)))
	begun := func(gen int) string { return pageOf(5, mark(100, gen), written(reg("k", gen))) }
	whole := func(gen int) string { return pageOf(5, mark(100, gen), written(reg("k", gen)), mark(101, gen)) }
	for _, x := range []struct {
		pages     []string
		head, gen int
	}{
		{[]string{free, entries, free}, -1, 0},
		{[]string{begun(1), free, free}, -1, 1},
		{[]string{begun(1), begun(3), begun(2)}, -1, 3},
		{[]string{whole(1), free, free}, 0, 1},
		{[]string{free, entries, whole(7)}, 2, 7},
		{[]string{whole(1), whole(2), whole(3)}, 2, 3},
		{[]string{whole(3), whole(2), whole(1)}, 0, 3},
		{[]string{whole(2), whole(3), whole(1)}, 1, 3},
		{[]string{whole(4), whole(4), whole(4)}, 0, 4},
		{[]string{whole(3), whole(4), whole(4)}, 1, 4},
		{[]string{begun(9), whole(4), whole(5)}, 2, 9},
		{[]string{whole(4), begun(4), free}, 0, 4},
		{[]string{begun(4), whole(4), free}, 1, 4},
		{[]string{whole(1), begun(maxNum), whole(maxNum - 1)}, 2, maxNum},
		{[]string{whole(maxNum), whole(1), whole(maxNum)}, 0, maxNum},
		{[]string{whole(256), whole(255), whole(65536)}, 2, 65536},
		// A page's generation is the greatest of all its marks, whichever of them tells that it is whole.
		{[]string{pageOf(5, mark(100, 9), mark(101, 2)), whole(5), whole(8)}, 0, 9},
		{[]string{whole(5), pageOf(5, mark(101, 2), mark(100, 9)), whole(8)}, 1, 9},
		{[]string{whole(5), pageOf(5, mark(101, 2), mark(101, 7), mark(101, 6)), whole(6)}, 1, 7},
		{[]string{whole(5), pageOf(5, mark(101, 6)), free}, 1, 6},
		{[]string{whole(5), pageOf(5, ones(4*place), mark(101, 6)), free}, 1, 6},
		{[]string{whole(5), pageOf(5, noughts(place), torn(noughts(size)), ones(place), mark(101, 6)), free}, 1, 6},
	} {
		f := device(x.pages...)
		for _, g := range []api.Flash{f, awake(f, 0, "\xff"), {Pages: f.Pages, Wear: f.Wear, Dead: true}} {
			if got := book.Find(g); got != (api.Book{Head: x.head, Gen: x.gen}) {
				t.Errorf("Find of %d, %d: %v", x.head, x.gen, got)
			}
		}
	}
}

// What is not just a mark's bytes, and its record, tells no generation.
func TestFindAmongRecordsThatAreNoMarks(t *testing.T) {
	good := markOf(101, 9)
	for at := 5; at < size; at++ {
		s := []byte(good)
		s[at] = 1
		if got := book.Find(device(pageOf(5, mark(101, 3), recordOf(string(s))))); got != (api.Book{Head: 0, Gen: 3}) {
			t.Errorf("byte %d is 1: %v", at, got)
		}
	}
	for _, payload := range []string{markOf(99, 9), markOf(102, 9), markOf(0, 9), markOf(1, 9), markOf(255, 9), markOf(101, 0), markOf(101, maxNum+1), markOf(101, 1<<32-1), markOf(100, 0), markOf(100, maxNum+1), noughts(size), ones(size)} {
		if got := book.Find(device(pageOf(5, recordOf(payload)), pageOf(5, mark(101, 3)))); got != (api.Book{Head: 1, Gen: 3}) {
			t.Errorf("%q: %v", payload, got)
		}
	}
	whole := recordOf(good)
	for at := range place {
		s := []byte(whole)
		s[at] ^= 1 << (at % 8)
		if got := book.Find(device(pageOf(5, string(s)))); got != (api.Book{Head: -1}) {
			t.Errorf("a bit of byte %d is turned: %v", at, got)
		}
	}
	for _, text := range []string{ones(1) + whole, whole[:91], ones(91) + whole, ones(place) + whole[:91], good + ones(50), turned(whole)} {
		if got := book.Find(device(text + ones(2*place-len(text)))); got != (api.Book{Head: -1}) {
			t.Errorf("%q: %v", text, got)
		}
	}
}

func TestFindAndLoadOfDevicesThatMayNotBe(t *testing.T) {
	for _, f := range noDevices() {
		if got := book.Find(f); got != (api.Book{Head: -1, Gen: 0}) {
			t.Errorf("Find(%v): %v", f, got)
		}
		for _, head := range []int{-1, 0, 1, 5} {
			if a, n := book.Load(f, api.Book{Head: head, Gen: 1}, 2); !alikeArenas(a, api.Arena{}) || n != 0 {
				t.Errorf("Load(%v): %v, %d", f, a, n)
			}
			if book.Free(f, head) != -1 || book.Worst(f, head, maxNum) != -1 {
				t.Errorf("pages of %v: %d is free, %d is worst", f, book.Free(f, head), book.Worst(f, head, maxNum))
			}
		}
	}
}

// log is a device with entries on each page, of which some are of one name, and with places that are spoilt.
func log() api.Flash {
	return device(
		pageOf(6, mark(100, 4), written(reg("k", 1)), written(flags("f", 1)), mark(101, 4), torn(markOf(100, 8)), written(reg("k", 3))),
		pageOf(6, mark(100, 5), written(counter("c", 5, 1)), noughts(place), torn(bytesOf(reg("z", 9))), written(flags("f", 6)), torn(noughts(size))),
		pageOf(6, noughts(place), ones(place), written(reg("k", 2)), recordOf(ones(size)), written(counter("c", 2, 7))),
	)
}

func TestLoad(t *testing.T) {
	for _, x := range []struct {
		head, room int
		want       api.Arena
		spoilt     int
	}{
		{0, 8, room(8, reg("k", 3), flags("f", 1)), 1},
		{1, 8, room(8, counter("c", 5, 1), flags("f", 6)), 2},
		{2, 8, room(8, reg("k", 2), counter("c", 2, 7)), 0},
		{-1, 8, room(8, reg("k", 3), flags("f", 7), counter("c", 5, 7)), 3},
		{-1, 3, room(3, reg("k", 3), flags("f", 7), counter("c", 5, 7)), 3},
		// What has no room is left out, and what is of a name that is there comes together with it all the same.
		{-1, 2, room(2, reg("k", 3), flags("f", 7)), 3},
		{-1, 1, room(1, reg("k", 3)), 3},
		{1, 1, room(1, counter("c", 5, 1)), 2},
		{0, 1, room(1, reg("k", 3)), 1},
	} {
		for _, gen := range []int{math.MinInt, 0, 4, 99} {
			for _, f := range []api.Flash{log(), awake(log(), 0, "\xff"), {Pages: log().Pages, Wear: log().Wear, Dead: true}} {
				if got, spoilt := book.Load(f, api.Book{Head: x.head, Gen: gen}, x.room); !alikeArenas(got, x.want) || spoilt != x.spoilt {
					t.Errorf("Load of %d, room %d: %v, %d, not %v, %d", x.head, x.room, got, spoilt, x.want, x.spoilt)
				}
			}
		}
	}
}

func TestLoadOfNothing(t *testing.T) {
	for _, room := range []int{math.MinInt, -8, -1, 0, 9, 10, 256 + 2, 1<<32 + 2, math.MaxInt} {
		for _, head := range []int{-1, 0, 1, 2} {
			if a, n := book.Load(log(), api.Book{Head: head}, room); !alikeArenas(a, api.Arena{}) || n != 0 {
				t.Errorf("room %d, head %d: %v, %d", room, head, a, n)
			}
		}
	}
	for _, head := range []int{math.MinInt, -3, -2, 3, 4, 6, 1 << 32, math.MaxInt} {
		if a, n := book.Load(log(), api.Book{Head: head}, 8); !alikeArenas(a, api.Arena{}) || n != 0 {
			t.Errorf("head %d: %v, %d", head, a, n)
		}
	}
	f, _ := flash.New(6, 8192)
	for room := 1; room <= 8; room++ {
		for head := -1; head < 6; head++ {
			if a, n := book.Load(f, api.Book{Head: head}, room); !alikeArenas(a, api.Arena{Cap: room}) || n != 0 {
				t.Errorf("of a new device: %v, %d", a, n)
			}
		}
	}
}

// A place is spoilt if just one bit of it was cleared, or is left; all zeros, or all ones, it is not; nor is a record that says nothing.
func TestSpoiltPlaces(t *testing.T) {
	for at := range place {
		for bit := range 8 {
			left, cleared := []byte(noughts(place)), []byte(ones(place))
			left[at], cleared[at] = 1<<bit, 255-1<<bit
			for _, s := range []string{string(left), string(cleared)} {
				f := device(pageOf(3, noughts(place), s), pageOf(3))
				_, of := book.Load(f, api.Book{Head: 0}, 2)
				_, all := book.Load(f, api.Book{Head: -1}, 2)
				_, other := book.Load(f, api.Book{Head: 1}, 2)
				if of != 1 || all != 1 || other != 0 {
					t.Errorf("bit %d of byte %d: %d, in all %d, in the other page %d", bit, at, of, all, other)
				}
			}
		}
	}
	for _, s := range []string{noughts(place), ones(place), mark(100, 1), mark(101, 1), written(reg("k", 1)), recordOf(markOf(99, 0)), recordOf(noughts(size)), recordOf(ones(size))} {
		if _, n := book.Load(device(s+s+s), api.Book{Head: -1}, 2); n != 0 {
			t.Errorf("%q: %d spoilt", s, n)
		}
	}
	// Bytes behind the last whole place are none.
	if _, n := book.Load(device(pageOf(2)+"behind"), api.Book{Head: 0}, 2); n != 0 {
		t.Errorf("%d spoilt behind the last place", n)
	}
	for n := range 90 {
		f := device(slices.Repeat([]string{strings.Repeat("x", n*place+1)}, 6)...)
		if n*place < 8192 {
			if _, spoilt := book.Load(f, api.Book{Head: -1}, 2); spoilt != 6*n {
				t.Errorf("6 pages of %d spoilt places: %d", n, spoilt)
			}
		}
	}
}

func TestFree(t *testing.T) {
	free, full, bit := pageOf(5), pageOf(5, mark(100, 1)), "\xfe"+ones(5*place-1)
	last := ones(5*place-1) + "\x7f"
	for _, x := range []struct {
		pages []string
		wear  []int
		want  map[int]int
	}{
		{[]string{free, free, free}, []int{0, 0, 0}, map[int]int{-1: 0, 0: 1, 1: 0, 2: 0, 3: 0, math.MinInt: 0, math.MaxInt: 0}},
		{[]string{free, free, free}, []int{2, 1, 1}, map[int]int{-1: 1, 0: 1, 1: 2, 2: 1, 3: 1}},
		{[]string{free, free, free}, []int{2, 1, 0}, map[int]int{-1: 2, 0: 2, 1: 2, 2: 1, 3: 2}},
		{[]string{free, free, free}, []int{1, 0, 1}, map[int]int{-1: 1, 0: 1, 1: 0, 2: 1}},
		{[]string{full, free, free}, []int{0, 9, 9}, map[int]int{-1: 1, 0: 1, 1: 2, 2: 1}},
		{[]string{full, free, full}, []int{0, maxNum, 0}, map[int]int{-1: 1, 0: 1, 1: -1, 2: 1}},
		{[]string{full, bit, last}, []int{0, 0, 0}, map[int]int{-1: -1, 0: -1, 1: -1, 2: -1, 3: -1}},
		{[]string{free}, []int{5}, map[int]int{-1: 0, 0: -1, 1: 0}},
		{[]string{free, free, free, free, free, free}, []int{3, 2, 1, 0, 0, 1}, map[int]int{-1: 3, 3: 4, 4: 3, 5: 3}},
	} {
		for head, want := range x.want {
			f := worn(device(x.pages...), x.wear...)
			for _, g := range []api.Flash{f, {Pages: f.Pages, Wear: f.Wear, Dead: true}} {
				if got := book.Free(g, head); got != want {
					t.Errorf("Free of wear %v, head %d: %d, not %d", x.wear, head, got, want)
				}
			}
		}
	}
}

func TestWorst(t *testing.T) {
	free, full, bit := pageOf(5), pageOf(5, mark(100, 1)), "\xfe"+ones(5*place-1)
	last := ones(5*place-1) + "\x7f"
	for _, x := range []struct {
		pages            []string
		wear             []int
		head, most, want int
	}{
		{[]string{full, full, full}, []int{0, 0, 0}, -1, 1, 0},
		{[]string{full, full, full}, []int{0, 0, 0}, 0, 1, 1},
		{[]string{full, full, full}, []int{0, 0, 0}, 0, 0, -1},
		{[]string{full, full, full}, []int{0, 0, 0}, 0, -1, -1},
		{[]string{full, full, full}, []int{0, 0, 0}, 0, math.MinInt, -1},
		{[]string{full, full, full}, []int{2, 1, 1}, -1, 9, 1},
		{[]string{full, full, full}, []int{2, 1, 1}, 1, 9, 2},
		{[]string{full, full, full}, []int{2, 1, 0}, 2, 9, 1},
		{[]string{full, full, full}, []int{2, 1, 0}, 7, 9, 2},
		{[]string{full, full, full}, []int{4, 5, 6}, -1, 4, -1},
		{[]string{full, full, full}, []int{4, 5, 6}, -1, 5, 0},
		{[]string{full, full, full}, []int{4, 5, 6}, 0, 5, -1},
		{[]string{full, full, full}, []int{4, 5, 6}, 0, 6, 1},
		{[]string{full, full, full}, []int{maxNum, maxNum, maxNum}, 0, maxNum, -1},
		{[]string{full, full, full}, []int{maxNum, maxNum, maxNum}, 0, math.MaxInt, 1},
		{[]string{full, full, full}, []int{maxNum, maxNum - 1, maxNum}, 0, maxNum, 1},
		{[]string{free, free, free}, []int{0, 0, 0}, -1, 9, -1},
		{[]string{free, full, free}, []int{0, 8, 0}, -1, 9, 1},
		{[]string{free, full, free}, []int{0, 8, 0}, 1, 9, -1},
		{[]string{free, bit, full}, []int{0, 1, 1}, 2, 9, 1},
		{[]string{free, last, full}, []int{0, 2, 3}, -1, 9, 1},
		{[]string{full}, []int{0}, 0, 9, -1},
		{[]string{full, free, full, full, free, full}, []int{7, 0, 3, 2, 0, 2}, 3, 9, 5},
	} {
		f := worn(device(x.pages...), x.wear...)
		for _, g := range []api.Flash{f, {Pages: f.Pages, Wear: f.Wear, Dead: true}} {
			if got := book.Worst(g, x.head, x.most); got != x.want {
				t.Errorf("Worst of wear %v, head %d, %d: %d, not %d", x.wear, x.head, x.most, got, x.want)
			}
		}
	}
}

// noConfigs are configs that may not be, each by one of its numbers.
func noConfigs() []api.Config {
	out := []api.Config{{}}
	for _, change := range []func(*api.Config, int){
		func(c *api.Config, n int) { c.Nodes = n },
		func(c *api.Config, n int) { c.Slots = n },
		func(c *api.Config, n int) { c.Chunk = n },
		func(c *api.Config, n int) { c.Buffer = n },
		func(c *api.Config, n int) { c.Queue = n },
		func(c *api.Config, n int) { c.Wear = n },
	} {
		for _, n := range []int{0, -1, maxNum + 1, math.MinInt, math.MaxInt} {
			c := small
			change(&c, n)
			out = append(out, c)
		}
	}
	tight := small
	tight.Slots = 3
	return append(out, tight)
}

func TestFits(t *testing.T) {
	if !book.Fits(device(pageOf(5), mark(100, 1)+pageOf(4), noughts(5*place)), small) {
		t.Error("a device of that config does not fit")
	}
	for slots := 1; slots <= 8; slots++ {
		for pages := 1; pages <= 6; pages++ {
			for room := slots + 3; room <= 24; room += 5 {
				f, _ := flash.New(pages, room*place)
				for _, other := range []int{1, 2, 3, 4, 5, 6, 7} {
					for _, more := range []int{-1, 0, 1} {
						c := api.Config{Nodes: 2, Slots: slots, Pages: other, Room: room + more, Chunk: 1, Buffer: 1, Queue: 2, Wear: 1}
						want := pages == other && more == 0 && pages >= 3
						if got := book.Fits(f, c); got != want {
							t.Errorf("Fits of %d pages of %d, %v: %v", pages, room, c, got)
						}
					}
				}
			}
		}
	}
	for _, length := range []int{1, 459, 461, 4*place + 1, 8192} {
		if f, _ := flash.New(3, length); book.Fits(f, small) {
			t.Errorf("pages of %d bytes fit", length)
		}
	}
	for _, c := range noConfigs() {
		if book.Fits(device(pageOf(c.Room), pageOf(c.Room), pageOf(c.Room)), c) {
			t.Errorf("%v fits, and may not be", c)
		}
	}
	for _, f := range noDevices() {
		if book.Fits(f, small) {
			t.Errorf("%v fits, and may not be", f)
		}
	}
	dead := device(pageOf(5), pageOf(5), pageOf(5))
	dead.Dead = true
	if !book.Fits(dead, small) {
		t.Error("a device that is dead does not fit")
	}
}

// noArenas are arenas that may not be, or are of another room than 2.
func noArenas() []api.Arena {
	a := room(2, reg("a", 1), reg("b", 1))
	out := []api.Arena{{}, room(1), room(3), room(8, reg("a", 1))}
	for _, change := range []func(*api.Arena){
		func(a *api.Arena) { a.Cap = 1 },
		func(a *api.Arena) { a.Cap = -2 },
		func(a *api.Arena) { a.Index = []int{1, 0} },
		func(a *api.Arena) { a.Index = []int{0} },
		func(a *api.Arena) { a.Index = []int{0, 2} },
		func(a *api.Arena) { a.Index = nil },
		func(a *api.Arena) { a.Slots = []api.Entry{reg("a", 1), reg("a", 2)} },
		func(a *api.Arena) { a.Slots = []api.Entry{reg("a", 1), reg("", 2)} },
		func(a *api.Arena) { a.Slots = []api.Entry{reg("a", 1), {Key: "b"}} },
		func(a *api.Arena) { a.Slots = []api.Entry{reg("a", 1), reg("b", -1)} },
		func(a *api.Arena) { a.Slots = a.Slots[:1] },
	} {
		b := twinOf(a)
		change(&b)
		out = append(out, b)
	}
	return out
}

func TestNoArenas(t *testing.T) {
	for _, a := range noArenas() {
		if arena.Check(a) == api.OK && a.Cap == small.Slots {
			t.Errorf("%v may be", a)
		}
	}
}
