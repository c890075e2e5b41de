package store_test

import (
	"math"
	"slices"
	"testing"

	"ouroboros/api"
	"ouroboros/arena"
	"ouroboros/book"
	"ouroboros/store"
)

// noConfigs may not be, each for one number.
func noConfigs() []api.Config {
	var out []api.Config
	for _, spoil := range []func(*api.Config){
		func(c *api.Config) { *c = api.Config{} },
		func(c *api.Config) { c.Nodes = 1 }, func(c *api.Config) { c.Nodes = 9 },
		func(c *api.Config) { c.Slots = 0 }, func(c *api.Config) { c.Slots, c.Room = 9, 24 },
		func(c *api.Config) { c.Pages = 2 }, func(c *api.Config) { c.Pages = 7 },
		func(c *api.Config) { c.Room = 4 }, func(c *api.Config) { c.Room = 25 },
		func(c *api.Config) { c.Chunk = 0 }, func(c *api.Config) { c.Chunk = 5 },
		func(c *api.Config) { c.Buffer = 0 }, func(c *api.Config) { c.Buffer = 9 },
		func(c *api.Config) { c.Queue = 1 }, func(c *api.Config) { c.Queue = 9 },
		func(c *api.Config) { c.Wear = 0 }, func(c *api.Config) { c.Wear = maxNum + 1 },
		func(c *api.Config) { c.Slots, c.Room = math.MaxInt, math.MinInt },
	} {
		c := small
		spoil(&c)
		out = append(out, c)
	}
	return out
}

func TestNew(t *testing.T) {
	for _, c := range sizes() {
		pages := []string{pageOf(c.Room, mark(100, 1), mark(101, 1))}
		for range c.Pages - 1 {
			pages = append(pages, pageOf(c.Room))
		}
		want := api.Store{Flash: device(pages...), Book: api.Book{Head: 0, Gen: 1}, Arena: api.Arena{Cap: c.Slots}}
		if s, no := store.New(c); no != api.OK || !alike(s, want) || !store.Fits(s, c) {
			t.Errorf("New(%v): %v, %v", c, s, no)
		}
		checkNew(t, c)
	}
	for _, c := range noConfigs() {
		if s, no := store.New(c); no != api.ErrArg || !alike(s, api.Store{}) {
			t.Errorf("New(%v): %v, %v", c, s, no)
		}
		checkNew(t, c)
	}
}

// unfit are stores that are none of small, each for one part.
func unfit() []api.Store {
	fit := on(device(log(3, several(reg("a", 1))), pageOf(5), pageOf(5)), small)
	var out []api.Store
	for _, spoil := range []func(*api.Store){
		func(s *api.Store) { *s = api.Store{} },
		func(s *api.Store) { s.Flash = api.Flash{} },
		func(s *api.Store) { s.Flash.Pages = append(s.Flash.Pages, pageOf(5)) },
		func(s *api.Store) { s.Flash = device(append(s.Flash.Pages, pageOf(5))...) },
		func(s *api.Store) { s.Flash = device(s.Flash.Pages[:2]...) },
		func(s *api.Store) { s.Flash.Pages[2] += "\xff" },
		func(s *api.Store) { s.Flash = device(pageOf(6), pageOf(6), pageOf(6)) },
		func(s *api.Store) { s.Flash.Wear[1] = -1 },
		func(s *api.Store) { s.Flash.Wear = s.Flash.Wear[:2] },
		func(s *api.Store) { s.Flash.Torn = noughts(65) },
		func(s *api.Store) { s.Book.Head = -1 },
		func(s *api.Store) { s.Book.Head = 3 },
		func(s *api.Store) { s.Book.Head = math.MaxInt },
		func(s *api.Store) { s.Book.Head = math.MinInt },
		func(s *api.Store) { s.Arena = api.Arena{} },
		func(s *api.Store) { s.Arena = room(1, reg("a", 1)) },
		func(s *api.Store) { s.Arena = room(3, reg("a", 1)) },
		func(s *api.Store) { s.Arena.Cap = 9 },
		func(s *api.Store) { s.Arena.Index = nil },
		func(s *api.Store) { s.Arena.Index[0] = 1 },
		func(s *api.Store) { s.Arena.Slots[0].Key = "" },
		func(s *api.Store) { s.Arena.Slots[0].Val.Time = -1 },
	} {
		s := twin(fit)
		spoil(&s)
		out = append(out, s)
	}
	return out
}

func TestFits(t *testing.T) {
	free := pageOf(5)
	fit := on(device(free, log(3, several(reg("a", 1))), free), small)
	for _, change := range []func(*api.Store){
		func(s *api.Store) {},
		func(s *api.Store) { s.Book.Head = 0 },
		func(s *api.Store) { s.Book.Head = 2 },
		func(s *api.Store) { s.Book.Gen = -5 },
		func(s *api.Store) { s.Book.Gen = math.MaxInt },
		func(s *api.Store) { s.Arena = room(2) },
		func(s *api.Store) { s.Lost, s.Next = math.MinInt, 99 },
		func(s *api.Store) { s.Flash.Dead, s.Flash.Fuse, s.Flash.Torn = true, math.MinInt, noughts(64) },
		func(s *api.Store) { s.Flash.Wear[2] = maxNum },
		func(s *api.Store) { s.Flash.Pages[1] = noughts(5 * place) },
	} {
		s := twin(fit)
		change(&s)
		if !store.Fits(s, small) {
			t.Errorf("%v does not fit", s)
		}
		for _, c := range append(noConfigs(), sizes()[1:]...) {
			if store.Fits(s, c) {
				t.Errorf("%v fits %v", s, c)
			}
		}
	}
	for _, s := range unfit() {
		if store.Fits(s, small) {
			t.Errorf("%v fits", s)
		}
	}
}

// What does not fit is told as it was, whatever is joined, merged or scrubbed.
func TestNothingFits(t *testing.T) {
	checkUnfit := func(s api.Store, c api.Config) {
		t.Helper()
		for _, e := range several(reg("a", 9), reg("", 0), flags("b", 1)) {
			if u, is, no := store.Join(s, c, e); no != api.ErrArg || is || !alike(u, s) {
				t.Errorf("Join(%v, %v): %v, %v, %v", s, c, u, is, no)
			}
		}
		u, some, wrong, no := store.Merge(s, c, several(reg("a", 9), reg("", 0)))
		if no != api.OK || len(some) != 0 || wrong != 2 || !alike(u, s) {
			t.Errorf("Merge(%v, %v): %v, %v, %d, %v", s, c, u, some, wrong, no)
		}
		if u, some, wrong, no := store.Merge(s, c, nil); no != api.OK || len(some) != 0 || wrong != 0 || !alike(u, s) {
			t.Errorf("Merge(%v, %v): %v, %v, %d, %v", s, c, u, some, wrong, no)
		}
		if u, no := store.Scrub(s, c); no != api.ErrArg || !alike(u, s) {
			t.Errorf("Scrub(%v, %v): %v, %v", s, c, u, no)
		}
	}
	for _, s := range unfit() {
		checkUnfit(s, small)
	}
	fit := on(device(log(3, several(reg("a", 1))), pageOf(5), pageOf(5)), small)
	for _, c := range append(noConfigs(), sizes()[1:]...) {
		checkUnfit(fit, c)
	}
}

// An entry stands behind what was written, and is in the arena, joined; the record has it as it was handed.
func TestJoin(t *testing.T) {
	s := start(t, small)
	first := counter("c", 3, 0)
	s, is, no := store.Join(s, small, first)
	if no != api.OK || !is || !alikeArenas(s.Arena, room(2, first)) || s.Flash.Pages[0] != pageOf(5, mark(100, 1), mark(101, 1), written(first)) {
		t.Fatalf("%v, %v, %v", s, is, no)
	}
	more := counter("c", 1, 5)
	s, is, no = store.Join(s, small, more)
	want := api.Store{
		Flash: device(pageOf(5, mark(100, 1), mark(101, 1), written(first), written(more)), pageOf(5), pageOf(5)),
		Book:  api.Book{Head: 0, Gen: 1},
		Arena: room(2, counter("c", 3, 5)),
	}
	if no != api.OK || !is || !alike(s, want) {
		t.Fatalf("%v, %v, %v", s, is, no)
	}
	s.Lost, s.Next = 7, 2
	u, is, no := store.Join(s, small, flags("f", 1))
	if no != api.OK || !is || u.Lost != 7 || u.Next != 2 || len(u.Arena.Slots) != 2 || u.Flash.Pages[0] != log(1, nil, written(first), written(more), written(flags("f", 1))) {
		t.Fatalf("%v, %v, %v", u, is, no)
	}
}

func TestJoinChangesNothing(t *testing.T) {
	s := on(device(log(2, several(reg("a", 5), flags("f", 6))), pageOf(5), pageOf(5)), small)
	s.Lost, s.Next = -3, 8
	for _, e := range several(reg("a", 5), reg("a", 1), flags("f", 2), flags("f", 6)) {
		// Nothing is written: so a dead device is no error.
		for _, s := range []api.Store{s, awake(s, 0, "\xff")} {
			if u, is, no := store.Join(s, small, e); no != api.OK || is || !alike(u, s) {
				t.Errorf("Join of %v: %v, %v, %v", e, u, is, no)
			}
		}
	}
	for _, c := range []struct {
		e  api.Entry
		no api.Errno
	}{
		{reg("", 1), api.ErrForm},
		{reg("a", -1), api.ErrForm},
		{reg("ninebytes", 1), api.ErrForm},
		{api.Entry{}, api.ErrForm},
		{reg("b", 1), api.ErrFull},
		{flags("a", 1), api.ErrFull},
	} {
		for _, s := range []api.Store{s, awake(s, 0, "\xff")} {
			if u, is, no := store.Join(s, small, c.e); no != c.no || is || !alike(u, s) {
				t.Errorf("Join of %v: %v, %v, %v", c.e, u, is, no)
			}
		}
	}
}

// A page has room for one more entry, or is just full: then all is written to another page.
func TestJoinAtTheEndOfAPage(t *testing.T) {
	a, b := reg("a", 1), flags("b", 1)
	free := pageOf(5)
	s := on(device(log(4, several(a), written(b)), free, free), small)
	u, is, no := store.Join(s, small, reg("a", 2))
	if no != api.OK || !is || u.Book != s.Book || u.Flash.Pages[0] != log(4, several(a), written(b), written(reg("a", 2))) || u.Flash.Pages[1] != free {
		t.Fatalf("%v, %v, %v", u, is, no)
	}
	v, is, no := store.Join(u, small, reg("a", 3))
	want := api.Store{
		Flash: device(u.Flash.Pages[0], log(5, several(reg("a", 3), b)), free),
		Book:  api.Book{Head: 1, Gen: 5},
		Arena: room(2, reg("a", 3), b),
	}
	if no != api.OK || !is || !alike(v, want) {
		t.Fatalf("%v, %v, %v", v, is, no)
	}
	// The next one takes the last free page: so the first is erased behind it.
	w, some, wrong, no := store.Merge(v, small, several(reg("a", 4), reg("a", 5)))
	if no != api.OK || wrong != 0 || len(some) != 2 || w.Book != (api.Book{Head: 2, Gen: 6}) || w.Flash.Pages[0] != free || !slices.Equal(w.Flash.Wear, []int{1, 0, 0}) {
		t.Fatalf("%v, %v, %d, %v", w, some, wrong, no)
	}
}

// Where there is no page to rotate to, or no greater generation, nothing is changed.
func TestJoinWorn(t *testing.T) {
	a, old := reg("a", 1), pageOf(5, mark(100, 1))
	full := log(4, several(a), written(reg("a", 2)), written(reg("a", 3)))
	for _, s := range []api.Store{
		on(device(full, old, old), small),
		on(worn(device(full, old, old), 0, 1000, 1000), small),
		{Flash: device(full, pageOf(5), old), Book: api.Book{Head: 0, Gen: maxNum}, Arena: room(2, a)},
		{Flash: device(full, pageOf(5), old), Book: api.Book{Head: 0, Gen: -1}, Arena: room(2, a)},
		{Flash: device(full, pageOf(5), old), Book: api.Book{Head: 0, Gen: math.MinInt}, Arena: room(2, a)},
	} {
		for _, fuse := range []int{-1, 0, 3} {
			s := awake(s, fuse, "\x0f")
			if u, is, no := store.Join(s, small, reg("a", 9)); no != api.ErrWorn || is || !alike(u, s) {
				t.Errorf("%v, %v, %v", u, is, no)
			}
			// It is an error as others are: what is behind it is joined, as far as it changes nothing.
			if u, some, wrong, no := store.Merge(s, small, several(reg("a", 9), a, reg("", 1), reg("b", 1))); no != api.OK || len(some) != 0 || wrong != 3 || !alike(u, s) {
				t.Errorf("%v, %v, %d, %v", u, some, wrong, no)
			}
		}
	}
	// There is one free page, and none that may be erased behind it: that is no error.
	s := on(worn(device(full, old, pageOf(5)), 1000, 1000, 0), small)
	if u, is, no := store.Join(s, small, reg("a", 9)); no != api.OK || !is || u.Book != (api.Book{Head: 2, Gen: 5}) || u.Flash.Pages[0] != full || u.Flash.Pages[1] != old {
		t.Errorf("%v, %v, %v", u, is, no)
	}
}

func TestJoinDead(t *testing.T) {
	s := on(device(log(4, several(reg("a", 1))), pageOf(5), pageOf(5)), small)
	s.Lost, s.Next = 4, 1
	e := flags("f", 3)
	dead := awake(s, 0, "\xff")
	dead.Flash.Dead = true
	if u, is, no := store.Join(dead, small, e); no != api.ErrDead || is || !alike(u, dead) {
		t.Errorf("%v, %v, %v", u, is, no)
	}
	// All bits that were to be cleared are: the entry is written, and yet it is not held.
	u, is, no := store.Join(awake(s, 0, "\xff"), small, e)
	want := awake(s, 0, "\xff")
	want.Flash = device(log(4, several(reg("a", 1)), written(e)), pageOf(5), pageOf(5))
	want.Flash.Fuse, want.Flash.Torn, want.Flash.Dead = 0, "\xff", true
	if no != api.ErrDead || is || !alike(u, want) {
		t.Errorf("%v, %v, %v", u, is, no)
	}
}

func TestMerge(t *testing.T) {
	s := start(t, small)
	l := several(reg("a", 1), reg("a", -1), counter("c", 1, 0), counter("c", 1, 0), reg("b", 1), counter("c", 0, 2), reg("a", 1), reg("a", 7))
	u, some, wrong, no := store.Merge(s, small, l)
	want := several(l[0], l[2], l[5], l[7])
	if no != api.OK || wrong != 2 || !alikeEntries(some, want) || !alikeArenas(u.Arena, room(2, reg("a", 7), counter("c", 1, 2))) {
		t.Fatalf("%v, %v, %d, %v", u, some, wrong, no)
	}
	// One behind the other they come to the same.
	v := s
	for _, e := range l {
		v, _, _ = store.Join(v, small, e)
	}
	if !alike(u, v) {
		t.Errorf("merged %v, joined %v", u, v)
	}
	if u, some, wrong, no := store.Merge(s, small, nil); no != api.OK || wrong != 0 || len(some) != 0 || !alike(u, s) {
		t.Errorf("none: %v, %v, %d, %v", u, some, wrong, no)
	}
}

// Death ends it: what was ahead of it is told, what is behind it is not joined, and no error either.
func TestMergeDies(t *testing.T) {
	s := start(t, small)
	l := several(reg("a", 1), reg("", 1), reg("a", 2), reg("b", 1), reg("c", 1), reg("", 1))
	for fuse, c := range []struct{ changes, wrong int }{{0, 0}, {1, 1}, {2, 1}} {
		u, some, wrong, no := store.Merge(awake(s, fuse, ""), small, l)
		ahead := several(l[0], l[2], l[3])[:c.changes]
		if no != api.ErrDead || wrong != c.wrong || !alikeEntries(some, ahead) || !alikeArenas(u.Arena, room(2, ahead...)) || !u.Flash.Dead {
			t.Errorf("fuse %d: %v, %v, %d, %v", fuse, u, some, wrong, no)
		}
	}
	u, some, wrong, no := store.Merge(awake(s, 3, ""), small, l)
	if no != api.OK || wrong != 3 || len(some) != 3 || u.Flash.Dead || u.Flash.Fuse != 0 {
		t.Errorf("fuse 3: %v, %v, %d, %v", u, some, wrong, no)
	}
	dead := awake(s, 5, "")
	dead.Flash.Dead = true
	if u, some, wrong, no := store.Merge(dead, small, l[1:]); no != api.ErrDead || wrong != 1 || len(some) != 0 || !alike(u, dead) {
		t.Errorf("dead: %v, %v, %d, %v", u, some, wrong, no)
	}
	if u, some, wrong, no := store.Merge(dead, small, l[1:2]); no != api.OK || wrong != 1 || len(some) != 0 || !alike(u, dead) {
		t.Errorf("dead, and nothing to write: %v, %v, %d, %v", u, some, wrong, no)
	}
}

// P2, P6: however much is joined, a store that is booted has what it had, as large as it was, on pages that are worn alike.
func TestManyAreJoined(t *testing.T) {
	for _, c := range sizes() {
		s := start(t, c)
		for i := 1; i <= 300; i++ {
			e := []api.Entry{counter("c", i, i/2), reg("r", i), flags("f", 1<<(i%64)), reg(string(byte('a'+i%7)), i)}[i%4]
			checkJoin(t, awake(s, 1000, ""), c, e)
			u, is, no := store.Join(s, c, e)
			if no != api.OK && no != api.ErrFull || is && arena.Alike(u.Arena, s.Arena) {
				t.Fatalf("%v, %d: %v, %v", c, i, is, no)
			}
			s = u
			if !store.Fits(s, c) || slices.Max(s.Flash.Wear)-slices.Min(s.Flash.Wear) > 1 {
				t.Fatalf("%v, %d: %v", c, i, s)
			}
			if v, no := store.Boot(s, c, -1, ""); no != api.OK || !alike(v, s) {
				t.Fatalf("%v, %d: %v is booted as %v, %v", c, i, s, v, no)
			}
		}
		if got := book.Find(s.Flash); got != s.Book || s.Book.Gen < 10 && c.Slots < 3 {
			t.Errorf("%v: %v is found, %v told", c, got, s.Book)
		}
	}
}

func TestSame(t *testing.T) {
	base := on(device(log(4, several(reg("a", 1), counter("c", 2, 3))), pageOf(5), pageOf(5)), small)
	base.Lost, base.Next = 2, 1
	changes := []func(*api.Store){
		func(s *api.Store) { s.Flash.Pages[1] = noughts(5 * place) },
		func(s *api.Store) { s.Flash.Pages = s.Flash.Pages[:2] },
		func(s *api.Store) { s.Flash.Wear[2] = 1 },
		func(s *api.Store) { s.Flash.Fuse = 0 },
		func(s *api.Store) { s.Flash.Torn = "\x00" },
		func(s *api.Store) { s.Flash.Dead = true },
		func(s *api.Store) { s.Book.Head = 1 },
		func(s *api.Store) { s.Book.Gen = 5 },
		func(s *api.Store) { s.Arena.Cap = 3 },
		func(s *api.Store) { s.Arena.Slots[0].Key = "b" },
		func(s *api.Store) { s.Arena.Slots[1].Val.Minus[7] = 4 },
		func(s *api.Store) { s.Arena.Slots = s.Arena.Slots[:1] },
		func(s *api.Store) { s.Arena.Index[0], s.Arena.Index[1] = 1, 0 },
		func(s *api.Store) { s.Arena.Index = nil },
		func(s *api.Store) { s.Lost = 3 },
		func(s *api.Store) { s.Next = 0 },
		func(s *api.Store) { *s = api.Store{} },
	}
	all := []api.Store{base}
	for _, change := range changes {
		s := twin(base)
		change(&s)
		all = append(all, s)
	}
	for i, a := range all {
		for j, b := range all {
			if got := store.Same(a, twin(b)); got != (i == j) {
				t.Errorf("Same(%d, %d): %v", i, j, got)
			}
		}
	}
	if !store.Same(api.Store{}, twin(api.Store{})) {
		t.Error("lists that are nil and empty are not the same")
	}
}
