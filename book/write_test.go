package book_test

import (
	"math"
	"strings"
	"testing"

	"ouroboros/api"
	"ouroboros/book"
	"ouroboros/config"
	"ouroboros/flash"
)

// whole is a page of small that holds those entries, of that generation.
func whole(gen int, l ...api.Entry) string {
	places := []string{mark(100, gen)}
	for _, e := range l {
		places = append(places, written(e))
	}
	return pageOf(small.Room, append(places, mark(101, gen))...)
}

// full is likewise, with all places behind it written.
func full(gen int, l ...api.Entry) string {
	s := strings.TrimRight(whole(gen, l...), "\xff")
	for len(s) < small.Room*place {
		s += written(reg("x", 9))
	}
	return s
}

func TestRotate(t *testing.T) {
	free, old := pageOf(5), full(6, reg("a", 1))
	for _, x := range []struct {
		f    api.Flash
		b    api.Book
		a    api.Arena
		want api.Flash
		head int
		gen  int
	}{
		{device(free, free, free), api.Book{Head: -1, Gen: 0}, room(2), device(pageOf(5, mark(100, 1), mark(101, 1)), free, free), 0, 1},
		{device(old, free, free), api.Book{Head: 0, Gen: 6}, room(2, reg("a", 2)), device(old, whole(7, reg("a", 2)), free), 1, 7},
		// Slots are written in the order in which they came, which is not that of their names.
		{device(old, free, free), api.Book{Head: 0, Gen: 6}, room(2, reg("z", 2), reg("a", 3)), device(old, whole(7, reg("z", 2), reg("a", 3)), free), 1, 7},
		{device(old, free, free), api.Book{Head: 0, Gen: 6}, room(2, flags("b", 1), counter("a", 3, 4)), device(old, whole(7, flags("b", 1), counter("a", 3, 4)), free), 1, 7},
		// The free page that was erased least is taken.
		{worn(device(free, old, free), 4, 0, 3), api.Book{Head: 1, Gen: 6}, room(2), worn(device(free, old, whole(7)), 4, 0, 3), 2, 7},
		// Where no page is free any more the worst one is erased: the one that was head, or the other one.
		{worn(device(old, free, old), 2, 0, 3), api.Book{Head: 0, Gen: 6}, room(2), worn(device(free, whole(7), old), 3, 0, 3), 1, 7},
		{worn(device(old, free, old), 3, 0, 2), api.Book{Head: 0, Gen: 6}, room(2), worn(device(old, whole(7), free), 3, 0, 3), 1, 7},
		{worn(device(old, free, old), 2, 0, 2), api.Book{Head: 0, Gen: 6}, room(2), worn(device(free, whole(7), old), 3, 0, 2), 1, 7},
		{worn(device(old, free, old), 1000, 0, 999), api.Book{Head: 0, Gen: 6}, room(2), worn(device(old, whole(7), free), 1000, 0, 1000), 1, 7},
		{worn(device(old, free, old), 1000, 2000, 1000), api.Book{Head: 0, Gen: 6}, room(2), worn(device(old, whole(7), old), 1000, 2000, 1000), 1, 7},
		// The generation is one more than what is told, whatever stands on the pages.
		{device(old, free, free), api.Book{Head: 0, Gen: 0}, room(2), device(old, whole(1), free), 1, 1},
		{device(old, free, free), api.Book{Head: 0, Gen: 2147483646}, room(2), device(old, whole(2147483647), free), 1, 2147483647},
		// A head that is no page keeps none from being taken, and one that is free is not taken.
		{device(free, old, free), api.Book{Head: 99, Gen: 6}, room(2), device(whole(7), old, free), 0, 7},
		{device(free, old, free), api.Book{Head: math.MinInt, Gen: 6}, room(2), device(whole(7), old, free), 0, 7},
		{device(free, old, free), api.Book{Head: 0, Gen: 6}, room(2), device(free, old, whole(7)), 2, 7},
	} {
		got, b, no := book.Rotate(x.f, x.b, small, x.a)
		if no != api.OK || b != (api.Book{Head: x.head, Gen: x.gen}) || !alike(got, x.want) {
			t.Errorf("Rotate(%v, %v): %v, %v, wear %v", x.b, x.a, b, no, got.Wear)
		}
	}
}

func TestRotateWhereItIsWorn(t *testing.T) {
	free, old := pageOf(5), full(6, reg("a", 1))
	for _, x := range []struct {
		f api.Flash
		b api.Book
	}{
		{device(old, free, free), api.Book{Head: 0, Gen: 2147483647}},
		{device(old, free, free), api.Book{Head: 0, Gen: 2147483648}},
		{device(old, free, free), api.Book{Head: 0, Gen: math.MaxInt}},
		{device(old, free, free), api.Book{Head: 0, Gen: -1}},
		{device(old, free, free), api.Book{Head: 0, Gen: math.MinInt}},
		{device(old, old, old), api.Book{Head: 0, Gen: 6}},
		{device(old, old, old), api.Book{Head: -1, Gen: 6}},
		{device(old, free, old), api.Book{Head: 1, Gen: 6}},
	} {
		for _, f := range []api.Flash{x.f, awake(x.f, 0, "\xff"), {Pages: x.f.Pages, Wear: x.f.Wear, Dead: true}} {
			if got, b, no := book.Rotate(f, x.b, small, room(2)); no != api.ErrWorn || b != x.b || !alike(got, f) {
				t.Errorf("Rotate(%v): %v, %v", x.b, b, no)
			}
		}
	}
}

// ErrArg is told ahead of all else, with all as it was.
func TestRotateOfWhatMayNotBe(t *testing.T) {
	free, old := pageOf(5), full(6, reg("a", 1))
	good := device(old, free, free)
	dead := api.Flash{Pages: []string{old, old, old}, Wear: []int{0, 0, 0}, Dead: true}
	refused := func(f api.Flash, c api.Config, a api.Arena) {
		t.Helper()
		for _, b := range []api.Book{{Head: 0, Gen: 6}, {Head: -1, Gen: -1}, {Head: 7, Gen: math.MaxInt}} {
			if got, k, no := book.Rotate(f, b, c, a); no != api.ErrArg || k != b || !alike(got, f) {
				t.Errorf("Rotate(%v, %v, %v, %v): %v, %v, %v", f, b, c, a, got, k, no)
			}
			for _, e := range []api.Entry{reg("a", 2), {}} {
				if got, k, no := book.Write(f, b, c, a, e); no != api.ErrArg || k != b || !alike(got, f) {
					t.Errorf("Write(%v, %v, %v, %v): %v, %v, %v", f, b, c, a, got, k, no)
				}
			}
		}
	}
	for _, f := range append(noDevices(), device(old, free), device(old, free, free, free), device(pageOf(6), pageOf(6), pageOf(6)), device(pageOf(4), pageOf(4), pageOf(4))) {
		refused(f, small, room(2))
	}
	for _, f := range []api.Flash{good, dead} {
		for _, c := range noConfigs() {
			refused(f, c, room(2))
		}
		for _, a := range noArenas() {
			refused(f, small, a)
		}
	}
}

func TestWrite(t *testing.T) {
	free := pageOf(5)
	// One place is left: it is written there, and the page is just full.
	left := pageOf(5, mark(100, 1), written(reg("a", 1)), written(reg("b", 1)), mark(101, 1))
	a := room(2, reg("a", 2), reg("b", 1))
	f, b, no := book.Write(device(left, free, free), api.Book{Head: 0, Gen: 1}, small, a, reg("a", 2))
	just := pageOf(5, mark(100, 1), written(reg("a", 1)), written(reg("b", 1)), mark(101, 1), written(reg("a", 2)))
	if no != api.OK || b != (api.Book{Head: 0, Gen: 1}) || !alike(f, device(just, free, free)) {
		t.Errorf("where one place is left: %v, %v", b, no)
	}
	// None is left: all is written to another page, but not the entry beside the arena.
	a = room(2, reg("a", 3), reg("b", 1))
	f, b, no = book.Write(f, b, small, a, reg("a", 3))
	if no != api.OK || b != (api.Book{Head: 1, Gen: 2}) || !alike(f, device(just, whole(2, reg("a", 3), reg("b", 1)), free)) {
		t.Errorf("where none is left: %v, %v", b, no)
	}
	// What is next is behind the last place that is not clear, whatever stands in it, or is left clear ahead of it.
	for _, x := range []struct{ was, want string }{
		{pageOf(5), pageOf(5, written(flags("f", 2)))},
		{pageOf(5, ones(place), noughts(place)), pageOf(5, ones(place), noughts(place), written(flags("f", 2)))},
		{pageOf(5, mark(101, 1), torn(noughts(size))), pageOf(5, mark(101, 1), torn(noughts(size)), written(flags("f", 2)))},
		{pageOf(5, ones(4*place-1), "\xfe"), pageOf(5, ones(4*place-1), "\xfe", written(flags("f", 2)))},
	} {
		for head := range 3 {
			pages, want := []string{free, free, free}, []string{free, free, free}
			pages[head], want[head] = x.was, x.want
			f, b, no := book.Write(device(pages...), api.Book{Head: head, Gen: -5}, small, room(2, flags("f", 2)), flags("f", 2))
			if no != api.OK || b != (api.Book{Head: head, Gen: -5}) || !alike(f, device(want...)) {
				t.Errorf("behind %q: %v, %v", x.was, b, no)
			}
		}
	}
	f, b, no = book.Write(device(pageOf(5, ones(5*place-1), "\x7f"), free, free), api.Book{Head: 0, Gen: 4}, small, room(2), reg("a", 1))
	if no != api.OK || b != (api.Book{Head: 1, Gen: 5}) || f.Pages[1] != whole(5) {
		t.Errorf("behind a page whose last bit is cleared: %v, %v", b, no)
	}
}

func TestWriteWhereItIsWornOrDead(t *testing.T) {
	free, old, next := pageOf(5), full(6, reg("a", 1)), whole(6, reg("a", 1))
	for _, x := range []struct {
		f    api.Flash
		b    api.Book
		want api.Errno
	}{
		{device(old, old, old), api.Book{Head: 0, Gen: 6}, api.ErrWorn},
		{device(old, free, free), api.Book{Head: 0, Gen: maxNum}, api.ErrWorn},
		{device(old, free, free), api.Book{Head: 0, Gen: -1}, api.ErrWorn},
		{api.Flash{Pages: []string{old, old, old}, Wear: []int{0, 0, 0}, Dead: true}, api.Book{Head: 0, Gen: 6}, api.ErrWorn},
		{api.Flash{Pages: []string{old, free, free}, Wear: []int{0, 0, 0}, Dead: true}, api.Book{Head: 0, Gen: 6}, api.ErrDead},
		{api.Flash{Pages: []string{next, free, free}, Wear: []int{0, 0, 0}, Dead: true}, api.Book{Head: 0, Gen: maxNum}, api.ErrDead},
	} {
		if got, b, no := book.Write(x.f, x.b, small, room(2, reg("a", 2)), reg("a", 2)); no != x.want || b != x.b || !alike(got, x.f) {
			t.Errorf("Write(%v): %v, %v, not %v", x.b, b, no, x.want)
		}
	}
	// While there is room in its page a generation that is at its end is written to all the same.
	if _, b, no := book.Write(device(next, old, old), api.Book{Head: 0, Gen: maxNum}, small, room(2, reg("a", 2)), reg("a", 2)); no != api.OK || b.Head != 0 {
		t.Errorf("in the last generation: %v, %v", b, no)
	}
}

func TestWriteOfWhatMayNotBe(t *testing.T) {
	free := pageOf(5)
	for _, text := range []string{whole(6, reg("a", 1)), full(6, reg("a", 1))} {
		for _, f := range []api.Flash{device(text, free, free), {Pages: []string{text, text, text}, Wear: []int{0, 0, 0}, Dead: true}} {
			for _, e := range []api.Entry{{}, reg("", 1), reg("ninebytes", 1), reg("a", -1), reg("a", maxNum+1), counter("c", 65536, 0), {Key: "a"}, {Key: "a", Val: api.Value{Kind: 4}}, {Key: "a", Val: api.Value{Kind: 100}}} {
				b := api.Book{Head: 0, Gen: 6}
				if got, k, no := book.Write(f, b, small, room(2), e); no != api.ErrArg || k != b || !alike(got, f) {
					t.Errorf("Write of %v: %v, %v", e, k, no)
				}
			}
			for _, head := range []int{math.MinInt, -2, -1, 3, 4, 1 << 32, math.MaxInt} {
				for _, gen := range []int{-1, 6, maxNum} {
					b := api.Book{Head: head, Gen: gen}
					if got, k, no := book.Write(f, b, small, room(2, reg("a", 2)), reg("a", 2)); no != api.ErrArg || k != b || !alike(got, f) {
						t.Errorf("Write(%v): %v, %v", b, k, no)
					}
				}
			}
		}
	}
}

func TestRecover(t *testing.T) {
	free, old := pageOf(5), full(6, reg("a", 1), reg("b", 1))
	begun := pageOf(5, mark(100, 7), written(reg("a", 5)))
	last := pageOf(5, mark(100, maxNum))
	for _, x := range []struct {
		f, want api.Flash
		b       api.Book
		a       api.Arena
		no      api.Errno
	}{
		{device(free, free, free), device(whole(1), free, free), api.Book{Head: 0, Gen: 1}, room(2), api.OK},
		{device(free, old, free), device(free, old, free), api.Book{Head: 1, Gen: 6}, room(2, reg("a", 1), reg("b", 1)), api.OK},
		{device(begun, old, free), device(begun, old, free), api.Book{Head: 1, Gen: 7}, room(2, reg("a", 1), reg("b", 1)), api.OK},
		// No page is free: the worst one is erased, but for the head, and ones that were erased too often.
		{worn(device(begun, old, begun), 3, 0, 2), worn(device(begun, old, free), 3, 0, 3), api.Book{Head: 1, Gen: 7}, room(2, reg("a", 1), reg("b", 1)), api.OK},
		{worn(device(begun, old, begun), 2, 0, 2), worn(device(free, old, begun), 3, 0, 2), api.Book{Head: 1, Gen: 7}, room(2, reg("a", 1), reg("b", 1)), api.OK},
		{worn(device(begun, old, begun), 1000, 0, 1000), worn(device(begun, old, begun), 1000, 0, 1000), api.Book{Head: 1, Gen: 7}, room(2, reg("a", 1), reg("b", 1)), api.OK},
		// No page is whole: all that is there is written to a free one, behind one that is erased, if it takes that.
		{device(begun, free, free), device(begun, whole(8, reg("a", 5)), free), api.Book{Head: 1, Gen: 8}, room(2, reg("a", 5)), api.OK},
		{worn(device(begun, begun, free), 0, 1, 9), worn(device(free, begun, whole(8, reg("a", 5))), 1, 1, 9), api.Book{Head: 2, Gen: 8}, room(2, reg("a", 5)), api.OK},
		{worn(device(begun, begun, begun), 2, 1, 1), worn(device(begun, whole(8, reg("a", 5)), free), 2, 2, 2), api.Book{Head: 1, Gen: 8}, room(2, reg("a", 5)), api.OK},
		{worn(device(begun, begun, begun), 1000, 999, 1000), worn(device(begun, whole(8, reg("a", 5)), begun), 1000, 1000, 1000), api.Book{Head: 1, Gen: 8}, room(2, reg("a", 5)), api.OK},
		{worn(device(begun, begun, begun), 1000, 1000, 1000), worn(device(begun, begun, begun), 1000, 1000, 1000), api.Book{}, api.Arena{}, api.ErrWorn},
		// Behind the last generation there is none: what was erased by then stays so.
		{device(last, free, free), device(last, free, free), api.Book{}, api.Arena{}, api.ErrWorn},
		{device(last, last, last), worn(device(free, last, last), 1, 0, 0), api.Book{}, api.Arena{}, api.ErrWorn},
		{device(last, old, free), device(last, old, free), api.Book{Head: 1, Gen: maxNum}, room(2, reg("a", 1), reg("b", 1)), api.OK},
	} {
		got, b, a, no := book.Recover(x.f, small)
		if no != x.no || b != x.b || !alikeArenas(a, x.a) || !alike(got, x.want) {
			t.Errorf("Recover: %v, %v, %v, wear %v, not %v, %v, %v, %v", b, a, no, got.Wear, x.b, x.a, x.no, x.want.Wear)
		}
	}
}

func TestRecoverOfTheDead(t *testing.T) {
	free, old := pageOf(5), full(6, reg("a", 1))
	begun := pageOf(5, mark(100, 7))
	dead := func(pages ...string) api.Flash { return api.Flash{Pages: pages, Wear: []int{1, 2, 3}, Dead: true} }
	// What takes no step does not ask whether the device is dead.
	if got, b, a, no := book.Recover(dead(old, free, begun), small); no != api.OK || b != (api.Book{Head: 0, Gen: 7}) || len(a.Slots) != 2 || !alike(got, dead(old, free, begun)) {
		t.Errorf("Recover without a step: %v, %v, %v", b, a, no)
	}
	for _, f := range []api.Flash{dead(free, free, free), dead(begun, free, free), dead(begun, begun, begun), dead(old, begun, begun)} {
		if got, b, a, no := book.Recover(f, small); no != api.ErrDead || b != (api.Book{}) || !alikeArenas(a, api.Arena{}) || !alike(got, f) {
			t.Errorf("Recover(%v): %v, %v, %v", f, b, a, no)
		}
	}
}

func TestRecoverOfWhatMayNotBe(t *testing.T) {
	refused := func(f api.Flash, c api.Config) {
		t.Helper()
		if got, b, a, no := book.Recover(f, c); no != api.ErrArg || b != (api.Book{}) || !alikeArenas(a, api.Arena{}) || !alike(got, f) {
			t.Errorf("Recover(%v, %v): %v, %v, %v, %v", f, c, got, b, a, no)
		}
	}
	free, old := pageOf(5), full(6, reg("a", 1))
	for _, f := range append(noDevices(), device(old, free), device(old, free, free, free), device(pageOf(6), pageOf(6), pageOf(6)), device(pageOf(4), pageOf(4), pageOf(4))) {
		refused(f, small)
	}
	for _, c := range noConfigs() {
		refused(device(old, free, free), c)
		refused(api.Flash{Pages: []string{old, old, old}, Wear: []int{0, 0, 0}, Dead: true}, c)
	}
}

// machine is a log, and what its arena holds.
type machine struct {
	c api.Config
	f api.Flash
	b api.Book
	a api.Arena
}

func start(t *testing.T, c api.Config) machine {
	t.Helper()
	f, _ := flash.New(c.Pages, config.Size(c))
	f, b, a, no := book.Recover(f, c)
	if no != api.OK {
		t.Fatalf("%v is not started: %v", c, no)
	}
	return machine{c, f, b, a}
}

// with is the arena that has one more update joined, and its entry: of as many names as there are slots, of all kinds.
func (m machine) with(i int) (api.Arena, api.Entry) {
	key := string([]byte{byte('z' - i%m.c.Slots)})
	e := reg(key, i)
	switch i % m.c.Slots % 3 {
	case 1:
		e = counter(key, i%65536, i/2%65536)
	case 2:
		e = flags(key, 1<<(i%64))
	}
	l := append(append([]api.Entry{}, m.a.Slots...), e)
	return room(m.c.Slots, l...), e
}

// sizes are configs of the least and of the greatest rooms, and some between.
func sizes() []api.Config {
	var out []api.Config
	for _, x := range [][3]int{{1, 3, 4}, {2, 3, 5}, {2, 4, 8}, {3, 3, 6}, {5, 5, 9}, {8, 6, 11}, {8, 3, 24}} {
		out = append(out, api.Config{Nodes: 2, Slots: x[0], Pages: x[1], Room: x[2], Chunk: 1, Buffer: 1, Queue: 2, Wear: 1000})
	}
	return out
}

// What is written is loaded, and pages are worn alike; no call takes more steps than config.Work.
func TestWhatIsWrittenIsLoaded(t *testing.T) {
	for _, c := range sizes() {
		m := start(t, c)
		for i := 1; i <= 300; i++ {
			a, e := m.with(i)
			f, b, no := book.Write(awake(m.f, 1000, ""), m.b, c, a, e)
			if no != api.OK || 1000-f.Fuse > config.Work(c) {
				t.Fatalf("%v, write %d: %v, %d steps", c, i, no, 1000-f.Fuse)
			}
			m = machine{c, awake(f, -1, ""), b, a}
			checkMachine(t, m)
		}
		if most := c.Pages * (c.Room - 2 - c.Slots + 1); m.b.Gen < 300/most {
			t.Errorf("%v: behind 300 entries generation %d", c, m.b.Gen)
		}
	}
}

// checkMachine holds a log against what its machine has in hand, and against what is promised of any.
func checkMachine(t *testing.T, m machine) {
	t.Helper()
	b := book.Find(m.f)
	a, spoilt := book.Load(m.f, b, m.c.Slots)
	if b != m.b || !alikeArenas(a, m.a) || spoilt != 0 {
		t.Fatalf("%v: %v, %v, %d spoilt, not %v, %v", m.c, b, a, spoilt, m.b, m.a)
	}
	if book.Free(m.f, b.Head) < 0 || !book.Fits(m.f, m.c) {
		t.Fatalf("%v: no page is free, or it does not fit", m.c)
	}
	least, most := m.f.Wear[0], m.f.Wear[0]
	for _, w := range m.f.Wear {
		least, most = min(least, w), max(most, w)
	}
	if most-least > 2 {
		t.Fatalf("%v: worn %v", m.c, m.f.Wear)
	}
	if f, k, d, no := book.Recover(m.f, m.c); no != api.OK || k != m.b || !alikeArenas(d, m.a) || !alike(f, m.f) {
		t.Fatalf("%v: recovered %v, %v, %v", m.c, k, d, no)
	}
}

// No page is erased more often than config.Wear: then no more is written, and what was is there still.
func TestWorn(t *testing.T) {
	for _, c := range sizes() {
		for wear := 1; wear <= 3; wear++ {
			c.Wear = wear
			m, wrote := start(t, c), 0
			for no := api.OK; no == api.OK; wrote++ {
				a, e := m.with(wrote + 1)
				var f api.Flash
				var b api.Book
				if f, b, no = book.Write(m.f, m.b, c, a, e); no == api.OK {
					m = machine{c, f, b, a}
				} else if no != api.ErrWorn || !alike(f, m.f) || b != m.b || wrote > 10000 {
					t.Fatalf("%v, write %d: %v, %v", c, wrote, b, no)
				}
			}
			for _, w := range m.f.Wear {
				if w > wear || w < wear-1 {
					t.Errorf("%v: worn %v", c, m.f.Wear)
				}
			}
			if a, n := book.Load(m.f, book.Find(m.f), c.Slots); !alikeArenas(a, m.a) || n != 0 || m.b.Gen < c.Pages*wear {
				t.Errorf("%v: worn with %v, %d spoilt, generation %d", c, a, n, m.b.Gen)
			}
			if _, b, a, no := book.Recover(m.f, c); no != api.OK || b != m.b || !alikeArenas(a, m.a) {
				t.Errorf("%v: worn, and recovered: %v, %v, %v", c, b, a, no)
			}
		}
	}
}
