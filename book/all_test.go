package book_test

import (
	"reflect"
	"slices"
	"testing"

	"ouroboros/api"
	"ouroboros/arena"
	"ouroboros/book"
	"ouroboros/config"
	"ouroboros/flash"
)

// kinds are pages of all kinds that a log can have, and of some that no log comes to have.
func kinds() []string {
	a, b, c := reg("a", 1), flags("b", 2), counter("c", 3, 4)
	return []string{
		pageOf(5),
		pageOf(5, mark(100, 1)),
		pageOf(5, mark(100, 3), written(b)),
		whole(2, a),
		whole(2, c, b),
		pageOf(5, mark(100, 3), written(a), mark(101, 3), written(reg("a", 5))),
		pageOf(5, mark(100, 3), written(c), mark(101, 3), torn(bytesOf(b)), written(a)),
		pageOf(5, torn(markOf(101, 9)), torn(bytesOf(a)), noughts(place), torn(noughts(size)), torn(bytesOf(b))),
		pageOf(5, noughts(place)),
		pageOf(5, written(c), written(b), written(a)),
		pageOf(5, mark(101, 1), mark(100, 5)),
		whole(maxNum-1, b),
		pageOf(5, mark(100, maxNum), written(a)),
		pageOf(5, recordOf(markOf(101, 0)), recordOf(markOf(102, 8)), recordOf(markOf(99, 8)), recordOf(noughts(size))),
		ones(5*place-1) + "\x7f",
	}
}

// devices are all devices of three of those pages, that were erased more or less often.
func devices(yield func(i int, f api.Flash) bool) {
	all := kinds()
	i := 0
	for a := range all {
		for b := range all {
			for c := range all {
				f := worn(device(all[a], all[b], all[c]), (a+b)%3, (b+2*c)%3, (c+i)%3)
				if i++; !yield(i, f) {
					return
				}
			}
		}
	}
}

func TestAllDevicesAreRead(t *testing.T) {
	t.Parallel()
	for _, f := range devices {
		if got, want := book.Find(f), findOf(f); got != want {
			t.Fatalf("Find(%v): %v, not %v", f, got, want)
		}
		for head := -2; head <= 3; head++ {
			if got, want := book.Free(f, head), freeOf(f, head); got != want {
				t.Fatalf("Free(%v, %d): %d, not %d", f, head, got, want)
			}
			for wear := range 4 {
				if got, want := book.Worst(f, head, wear), worstOf(f, head, wear); got != want {
					t.Fatalf("Worst(%v, %d, %d): %d, not %d", f, head, wear, got, want)
				}
			}
			checkLoad(t, f, api.Book{Head: head}, 1+(head+7)%3)
		}
	}
}

func checkLoad(t *testing.T, f api.Flash, b api.Book, room int) {
	t.Helper()
	got, n := book.Load(f, b, room)
	want, m := loadOf(f, b, room)
	if !alikeArenas(got, want) || n != m {
		t.Fatalf("Load(%v, %v, %d): %v, %d, not %v, %d", f, b, room, got, n, want, m)
	}
}

func TestAllDevicesAreWritten(t *testing.T) {
	t.Parallel()
	c := small
	c.Wear = 2
	for i, f := range devices {
		checkSteps(t, f, c, book.Find(f))
		if i%11 == 0 {
			for fuse := range 7 {
				checkSteps(t, awake(f, fuse, torns()[(i+fuse)%len(torns())]), c, api.Book{Head: i%5 - 1, Gen: i % 3})
			}
		}
	}
}

// checkSteps holds all that takes steps of a device against the document, step by step.
func checkSteps(t *testing.T, f api.Flash, c api.Config, b api.Book) {
	t.Helper()
	a := room(2, reg("b", 3), flags("a", 4))
	checkRotate(t, f, b, c, a)
	checkWrite(t, f, b, c, a, reg("b", 3))
	checkRecover(t, f, c)
	for n := range 3 {
		checkClean(t, f, n)
	}
}

func checkRotate(t *testing.T, f api.Flash, b api.Book, c api.Config, a api.Arena) {
	t.Helper()
	got, k, no := book.Rotate(f, b, c, a)
	want, l, wantNo := rotateOf(f, b, c, a)
	if no != wantNo || k != l || !alike(got, want) {
		t.Fatalf("Rotate(%v, %v, %v, %v): %v, %v, %v, not %v, %v, %v", f, b, c, a, got, k, no, want, l, wantNo)
	}
}

func checkWrite(t *testing.T, f api.Flash, b api.Book, c api.Config, a api.Arena, e api.Entry) {
	t.Helper()
	got, k, no := book.Write(f, b, c, a, e)
	want, l, wantNo := writeOf(f, b, c, a, e)
	if no != wantNo || k != l || !alike(got, want) {
		t.Fatalf("Write(%v, %v, %v, %v, %v): %v, %v, %v, not %v, %v, %v", f, b, c, a, e, got, k, no, want, l, wantNo)
	}
}

func checkRecover(t *testing.T, f api.Flash, c api.Config) {
	t.Helper()
	got, b, a, no := book.Recover(f, c)
	want, k, d, wantNo := recoverOf(f, c)
	if no != wantNo || b != k || !alikeArenas(a, d) || !alike(got, want) {
		t.Fatalf("Recover(%v, %v): %v, %v, %v, %v, not %v, %v, %v, %v", f, c, got, b, a, no, want, k, d, wantNo)
	}
	if f.Fuse > got.Fuse && f.Fuse-got.Fuse > config.Work(c) {
		t.Fatalf("Recover(%v, %v): %d steps", f, c, f.Fuse-got.Fuse)
	}
}

func checkClean(t *testing.T, f api.Flash, n int) {
	t.Helper()
	got, count, no := book.Clean(f, n)
	want, m, wantNo := cleanOf(f, n)
	if no != wantNo || count != m || !alike(got, want) {
		t.Fatalf("Clean(%v, %d): %v, %d, %v, not %v, %d, %v", f, n, got, count, no, want, m, wantNo)
	}
}

// P7, of one device: where up to 4 bytes are turned no entry is read that was not written, and no mark; just one place is spoilt, or two.
func TestTurnedBytes(t *testing.T) {
	a, b := reg("a", 1), flags("b", 2)
	f := device(pageOf(5, mark(100, 4), written(a), written(b), mark(101, 4)), pageOf(5), pageOf(5))
	for at := range 5*place - 3 {
		for _, turn := range []string{"\x01", "\xff", "\x80\x01", "\xff\xff\xff\xff", "\x10\x00\x00\x08"} {
			g, _ := flash.Rot(f, 0, at, turn)
			d, spoilt := book.Load(g, api.Book{Head: 0}, 2)
			if !arena.Below(d, room(2, a, b)) || spoilt < 1 || spoilt > 2 {
				t.Fatalf("%q at %d: %v, %d spoilt", turn, at, d, spoilt)
			}
			for _, e := range d.Slots {
				if !reflect.DeepEqual(e, a) && !reflect.DeepEqual(e, b) {
					t.Fatalf("%q at %d: %v", turn, at, e)
				}
			}
			if k := book.Find(g); k.Gen != 4 || k.Head > 0 {
				t.Fatalf("%q at %d: %v", turn, at, k)
			}
			if h, n, no := book.Clean(g, 0); no != api.OK || n != spoilt || sightOf(h.Pages[0]).spoilt != 0 {
				t.Fatalf("%q at %d: %d cleaned, %v", turn, at, n, no)
			}
		}
	}
}

// given is all that calls are handed.
type given struct {
	f api.Flash
	b api.Book
	c api.Config
	a api.Arena
	e api.Entry
}

func (g given) twin() given {
	g.f, g.a = twin(g.f), twinOf(g.a)
	g.e = twinOf(api.Arena{Slots: []api.Entry{g.e}}).Slots[0]
	return g
}

// told is all that calls tell.
type told struct {
	devices []api.Flash
	arenas  []api.Arena
	rest    []any
}

func tell(g given) told {
	f1, b1, no1 := book.Rotate(g.f, g.b, g.c, g.a)
	f2, b2, no2 := book.Write(g.f, g.b, g.c, g.a, g.e)
	f3, b3, a3, no3 := book.Recover(g.f, g.c)
	f4, n4, no4 := book.Clean(g.f, 0)
	f5, n5, no5 := book.Clean(g.f, 9)
	a6, n6 := book.Load(g.f, g.b, 2)
	a7, n7 := book.Load(g.f, api.Book{Head: -1}, 8)
	find, free, worst, fits := book.Find(g.f), book.Free(g.f, g.b.Head), book.Worst(g.f, g.b.Head, 5), book.Fits(g.f, g.c)
	return told{
		[]api.Flash{f1, f2, f3, f4, f5}, []api.Arena{a3, a6, a7},
		[]any{b1, no1, b2, no2, b3, no3, n4, no4, n5, no5, n6, n7, find, free, worst, fits},
	}
}

func (x told) twin() told {
	var out told
	for _, f := range x.devices {
		out.devices = append(out.devices, twin(f))
	}
	for _, a := range x.arenas {
		out.arenas = append(out.arenas, twinOf(a))
	}
	out.rest = slices.Clone(x.rest)
	return out
}

// spoil changes all that is told, wherever it could be shared.
func (x told) spoil() {
	for _, f := range x.devices {
		for i := range f.Pages {
			f.Pages[i] = "changed"
		}
		for i := range f.Wear {
			f.Wear[i] = -9
		}
	}
	for _, a := range x.arenas {
		for i := range a.Slots {
			for j := range a.Slots[i].Val.Plus {
				a.Slots[i].Val.Plus[j] = -9
			}
			a.Slots[i].Key = "changed"
		}
		for i := range a.Index {
			a.Index[i] = -9
		}
	}
}

// R3, R4: an argument is as it was, whatever is done with it, and with what is told; the same call tells the same.
func TestNothingIsShared(t *testing.T) {
	old := pageOf(5, mark(100, 6), written(counter("c", 1, 2)), mark(101, 6), torn(noughts(size)))
	full, free := old[:4*place]+torn(markOf(100, 1)), pageOf(5)
	a := room(2, counter("c", 1, 2), counter("d", 3, 4))
	var all []given
	for _, f := range append(noDevices(), device(old, free, free), device(full, free, free), device(full, free, full), device(full, full, full), device(free, free, free)) {
		for _, b := range []api.Book{{Head: 0, Gen: 6}, {Head: -1}, {Head: 0, Gen: -1}, {Head: 9}} {
			for _, c := range []api.Config{small, {}} {
				all = append(all, given{f, b, c, a, counter("c", 1, 2)}, given{awake(f, 1, "\x55"), b, c, a, reg("", 1)})
			}
		}
	}
	for _, g := range all {
		was := g.twin()
		first := tell(g)
		kept := first.twin()
		first.spoil()
		if !reflect.DeepEqual(g.twin(), was) {
			t.Fatalf("%v is %v now", was, g)
		}
		for range 3 {
			if again := tell(g); !reflect.DeepEqual(again.twin(), kept) {
				t.Fatalf("%v: %v, then %v", g, kept, again)
			}
		}
	}
}

// R4: what pages hold is told in their order, however they were looked through; and calls go on side by side.
func TestManyLookAtOnce(t *testing.T) {
	var pages []string
	for n := range 6 {
		l := []string{mark(100, 9), torn(noughts(size))}
		for i := range 80 {
			l = append(l, written(reg(string([]byte{byte('a' + (i+n)%9)}), 100*n+i)))
		}
		pages = append(pages, pageOf(89, append(l, mark(101, 9))...))
	}
	f := device(pages...)
	want, spoilt := loadOf(f, api.Book{Head: -1}, 8)
	for i := range 8 {
		t.Run("", func(t *testing.T) {
			t.Parallel()
			for range 10 {
				if a, n := book.Load(f, api.Book{Head: -1}, 8); !alikeArenas(a, want) || n != spoilt || n != 6 {
					t.Errorf("look %d: %v, %d", i, a, n)
				}
				if b := book.Find(f); b != (api.Book{Head: 0, Gen: 9}) {
					t.Errorf("look %d: %v", i, b)
				}
			}
		})
	}
}

// P1: whatever is asked, all calls end, none panics, and tell what the document says.
func FuzzAllCalls(f *testing.F) {
	f.Add(uint16(0), 3, 0, 1, -1, "", "", 460, "a", 1)
	f.Add(uint16(777), 3, -1, 0, 2, "\xff", "x", 460, "key", 3)
	f.Add(uint16(3333), 3, 2, maxNum, 0, "\x0f\xf0", "changed", 460, "", 0)
	f.Add(uint16(1234), 6, 9, -1, 5, "", "", 461, "b", 2)
	f.Add(uint16(99), 0, 0, 0, 0, "", "", 0, "ninebytes", -1)
	f.Add(uint16(2100), 7, 0, 3, 1, "\x01", "", 92, "c", 100)
	all := kinds()
	f.Fuzz(func(t *testing.T, which uint16, pages, head, gen, fuse int, torn, over string, length int, key string, kind int) {
		dev := api.Flash{Fuse: fuse, Torn: torn, Dead: which%17 == 0}
		for i := range min(max(pages, 0), 9) {
			s := all[(int(which)+i*i)%len(all)]
			s += all[(int(which)/len(all)+i)%len(all)]
			s = over + s[min(len(over), len(s)):]
			dev.Pages, dev.Wear = append(dev.Pages, s[:min(max(length, 0), len(s))]), append(dev.Wear, int(which)%(i+2))
		}
		b := api.Book{Head: head, Gen: gen}
		a := room(2, reg("b", 1), counter("a", 1, 2))
		e := api.Entry{Key: key, Val: api.Value{Kind: kind, Time: gen}}
		if got, want := book.Find(dev), findOf(dev); got != want {
			t.Fatalf("Find(%v): %v, not %v", dev, got, want)
		}
		checkLoad(t, dev, b, kind)
		if got, want := book.Free(dev, head), freeOf(dev, head); got != want {
			t.Fatalf("Free(%v, %d): %d, not %d", dev, head, got, want)
		}
		if got, want := book.Worst(dev, head, kind), worstOf(dev, head, kind); got != want {
			t.Fatalf("Worst(%v, %d, %d): %d, not %d", dev, head, kind, got, want)
		}
		c := small
		c.Pages, c.Room, c.Wear = pages, length/place, gen
		for _, c := range []api.Config{small, c} {
			checkSteps(t, dev, c, b)
			checkWrite(t, dev, b, c, a, e)
		}
		checkClean(t, dev, head)
		if s, no := book.Mark(kind, gen); (no == api.OK) != (s == markOf(kind, gen) && len(s) == size) {
			t.Fatalf("Mark(%d, %d): %q, %v", kind, gen, s, no)
		}
	})
}
