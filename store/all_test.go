package store_test

import (
	"reflect"
	"slices"
	"testing"

	"ouroboros/api"
	"ouroboros/book"
	"ouroboros/store"
)

// kinds are pages of all kinds that a log can have, and of some that no log comes to have.
func kinds() []string {
	a, b, c := reg("a", 1), flags("b", 2), counter("c", 3, 4)
	return []string{
		pageOf(5),
		pageOf(5, mark(100, 1)),
		log(2, several(a)),
		log(2, several(c, b), torn(a)),
		log(3, several(a), torn(b), written(reg("a", 5))),
		pageOf(5, torn(b), torn(a), noughts(place), torn(c), torn(b)),
		pageOf(5, noughts(place), written(c)),
		log(maxNum-1, several(b), torn(a)),
		pageOf(5, mark(100, maxNum), written(a)),
		ones(5*place-1) + "\x7f",
	}
}

// devices are all devices of three of those pages, that were erased more or less often.
func devices(yield func(i int, f api.Flash) bool) {
	all := kinds()
	i := 0
	for a := range all {
		for b := range all {
			for c := range all {
				f := worn(device(all[a], all[b], all[c]), (a+b)%3, (b+2*c)%3, (c+i)%3)
				if i++; !yield(i, f) {
					return
				}
			}
		}
	}
}

func TestAllDevices(t *testing.T) {
	t.Parallel()
	c := small
	c.Wear = 2
	l := several(reg("a", 9), flags("b", 2), reg("", 1), counter("c", 4, 1), flags("d", 1))
	for i, f := range devices {
		s := on(f, c)
		s.Lost, s.Next = i%4, i%5-1
		checkAll(t, s, c, l)
		checkAll(t, awake(s, i%9, torns()[i%len(torns())]), c, l)
		s.Book, s.Arena = api.Book{Head: i % 3, Gen: i % 7}, room(2, flags("b", 1), counter("c", 5, 1))
		checkAll(t, awake(s, 1000, ""), c, l)
		s.Next, s.Flash.Dead = s.Book.Head, true
		checkAll(t, s, c, l)
	}
}

// given is all that calls are handed.
type given struct {
	s api.Store
	c api.Config
	l []api.Entry
}

func (g given) twin() given { return given{twin(g.s), g.c, twins(g.l)} }

// told is all that calls tell.
type told struct {
	stores []api.Store
	lists  [][]api.Entry
	rest   []any
}

func tell(g given) told {
	s0, no0 := store.New(g.c)
	s1, is1, no1 := store.Join(g.s, g.c, g.l[0])
	s2, l2, wrong2, no2 := store.Merge(g.s, g.c, g.l)
	s3, no3 := store.Boot(g.s, g.c, 3, "\x05")
	s4, no4 := store.Boot(g.s, g.c, 3, ones(65))
	s5, no5 := store.Scrub(g.s, g.c)
	return told{
		[]api.Store{s0, s1, s2, s3, s4, s5}, [][]api.Entry{l2},
		[]any{no0, is1, no1, wrong2, no2, no3, no4, no5, store.Fits(g.s, g.c), store.Same(g.s, s1)},
	}
}

func (x told) twin() told {
	var out told
	for _, s := range x.stores {
		out.stores = append(out.stores, twin(s))
	}
	for _, l := range x.lists {
		out.lists = append(out.lists, twins(l))
	}
	out.rest = slices.Clone(x.rest)
	return out
}

// spoil changes all that is told, wherever it could be shared.
func (x told) spoil() {
	for _, s := range x.stores {
		for i := range s.Flash.Pages {
			s.Flash.Pages[i] = "changed"
		}
		for i := range s.Flash.Wear {
			s.Flash.Wear[i] = -9
		}
		for i := range s.Arena.Index {
			s.Arena.Index[i] = -9
		}
		spoilEntries(s.Arena.Slots)
	}
	for _, l := range x.lists {
		spoilEntries(l)
	}
}

func spoilEntries(l []api.Entry) {
	for i := range l {
		for j := range l[i].Val.Plus {
			l[i].Val.Plus[j] = -9
		}
		for j := range l[i].Val.Minus {
			l[i].Val.Minus[j] = -9
		}
		l[i].Key = "changed"
	}
}

// R3, R4: an argument is as it was, whatever is done with it, and with what is told; the same call tells the same.
func TestNothingIsShared(t *testing.T) {
	e, d := counter("c", 1, 2), counter("d", 3, 4)
	l := several(e, counter("d", 5, 5), reg("", 1), counter("c", 1, 0), counter("d", 6, 6))
	free := pageOf(5)
	full := log(6, several(d), torn(e), written(d))
	var all []given
	for _, f := range []api.Flash{device(log(6, several(d)), free, free), device(full, free, free), device(full, free, full), device(full, full, full), device(free, free, free), {}} {
		s := api.Store{Flash: f, Book: api.Book{Head: 0, Gen: 6}, Arena: room(2, d)}
		for _, fuse := range []int{-1, 0, 2} {
			all = append(all, given{awake(s, fuse, "\x55"), small, l})
		}
		s.Arena.Cap = 1
		all = append(all, given{s, small, l}, given{s, api.Config{}, l})
	}
	for _, s := range unfit() {
		all = append(all, given{s, small, l})
	}
	for _, g := range all {
		was := g.twin()
		first := tell(g)
		kept := first.twin()
		first.spoil()
		if !reflect.DeepEqual(g.twin(), was) {
			t.Fatalf("%v is %v now", was, g)
		}
		for range 2 {
			if again := tell(g); !reflect.DeepEqual(again.twin(), kept) {
				t.Fatalf("%v: %v, then %v", g, kept, again)
			}
		}
	}
}

// The two lists of an answer share nothing either, also where one entry is merged twice.
func TestListsOfOneAnswer(t *testing.T) {
	e := counter("c", 1, 2)
	s := start(t, small)
	u, some, _, no := store.Merge(s, small, several(e, counter("c", 9, 9)))
	if no != api.OK || len(some) != 2 {
		t.Fatal(some, no)
	}
	kept := twin(u)
	spoilEntries(some[:1])
	if !alike(u, kept) || !alikeEntries(some[1:], several(counter("c", 9, 9))) || !alikeEntries(several(e), several(counter("c", 1, 2))) {
		t.Errorf("%v, %v, %v", u, some, e)
	}
}

// R4: calls go on side by side.
func TestManyAskAtOnce(t *testing.T) {
	s := spoilt()
	s.Next = 1
	want, _ := scrubOf(s, small)
	for i := range 8 {
		t.Run("", func(t *testing.T) {
			t.Parallel()
			for range 20 {
				if u, no := store.Scrub(s, small); no != api.OK || !alike(u, want) {
					t.Errorf("%d: %v, %v", i, u, no)
				}
				checkJoin(t, s, small, flags("f", 7))
				checkBoot(t, s, small, -1, "")
			}
		})
	}
}

// P1: whatever is asked, all calls end, none panics, and tell what the document says.
func FuzzAllCalls(f *testing.F) {
	f.Add(uint16(0), 3, 0, 1, -1, "", "", 460, "a", 1, 0)
	f.Add(uint16(777), 3, -1, 0, 2, "\xff", "x", 460, "key", 3, 1)
	f.Add(uint16(333), 3, 2, maxNum, 0, "\x0f\xf0", "changed", 460, "", 0, 2)
	f.Add(uint16(234), 6, 9, -1, 5, "", "", 461, "b", 2, -1)
	f.Add(uint16(99), 0, 0, 0, 0, "", "", 0, "ninebytes", -1, 9)
	f.Add(uint16(210), 7, 0, 3, 1, "\x01", "", 92, "c", 100, 3)
	all := kinds()
	f.Fuzz(func(t *testing.T, which uint16, pages, head, gen, fuse int, torn, over string, length int, key string, kind, next int) {
		dev := api.Flash{Fuse: fuse, Torn: torn, Dead: which%17 == 0}
		for i := range min(max(pages, 0), 9) {
			s := all[(int(which)+i*i)%len(all)]
			s = over + s[min(len(over), len(s)):]
			dev.Pages, dev.Wear = append(dev.Pages, s[:min(max(length, 0), len(s))]), append(dev.Wear, int(which)%(i+2))
		}
		e := api.Entry{Key: key, Val: api.Value{Kind: kind, Time: gen, Flags: uint64(which)}}
		s := api.Store{Flash: dev, Book: api.Book{Head: head, Gen: gen}, Arena: room(2, reg("b", 1)), Lost: fuse, Next: next}
		found := on(dev, small)
		found.Next = head
		c := small
		c.Pages, c.Room, c.Wear = pages, length/place, gen
		for _, c := range []api.Config{small, c} {
			checkNew(t, c)
			checkAll(t, s, c, several(e, flags("b", uint64(which)), reg(key, next), e))
			checkAll(t, found, c, several(e, counter(key, 1, 2)))
			checkBoot(t, s, c, next, over)
		}
		if !store.Same(s, twin(s)) || store.Same(s, found) != alike(s, found) {
			t.Fatalf("Same(%v, %v): %v", s, found, store.Same(s, found))
		}
		if b := book.Find(dev); b.Head >= 0 && store.Fits(found, small) != fitsOf(found, small) {
			t.Fatalf("Fits(%v)", found)
		}
	})
}
