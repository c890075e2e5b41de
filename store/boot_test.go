package store_test

import (
	"math"
	"testing"

	"ouroboros/api"
	"ouroboros/arena"
	"ouroboros/flash"
	"ouroboros/store"
)

func TestBoot(t *testing.T) {
	s := on(device(log(4, several(reg("a", 1)), written(flags("f", 2))), pageOf(5), pageOf(5)), small)
	s.Lost, s.Next = 5, 2
	want := twin(s)
	want.Next = 0
	if u, no := store.Boot(s, small, -1, ""); no != api.OK || !alike(u, want) {
		t.Errorf("%v, %v", u, no)
	}
	// Book and arena are read anew, whatever they were; a dead device is awake.
	odd := twin(s)
	odd.Book, odd.Arena, odd.Flash.Dead, odd.Flash.Torn = api.Book{Head: 9, Gen: -9}, api.Arena{Cap: 99}, true, "old"
	for _, fuse := range []int{math.MinInt, -2, -1, 0, 1, math.MaxInt} {
		for _, torn := range []string{"", "\x0f", noughts(64), ones(64)} {
			want.Flash.Fuse, want.Flash.Torn = fuse, torn
			// Nothing is written where there is a free page: so no fuse is too short.
			if u, no := store.Boot(odd, small, fuse, torn); no != api.OK || !alike(u, want) {
				t.Errorf("fuse %d, torn %q: %v, %v", fuse, torn, u, no)
			}
			checkBoot(t, odd, small, fuse, torn)
		}
	}
}

func TestBootWrong(t *testing.T) {
	fit := on(device(log(4, several(reg("a", 1)), torn(reg("a", 2))), pageOf(5), pageOf(5)), small)
	fit.Lost, fit.Next = 5, 2
	dead := twin(fit)
	dead.Flash.Dead = true
	for _, s := range []api.Store{fit, dead} {
		for _, torn := range []string{noughts(65), ones(1000)} {
			if u, no := store.Boot(s, small, 3, torn); no != api.ErrArg || !alike(u, s) {
				t.Errorf("torn of %d bytes: %v, %v", len(torn), u, no)
			}
		}
		for _, c := range append(noConfigs(), sizes()[1:]...) {
			if u, no := store.Boot(s, c, 3, ""); no != api.ErrArg || !alike(u, s) {
				t.Errorf("%v: %v, %v", c, u, no)
			}
		}
	}
	// Of stores that do not fit those boot whose devices do.
	boots := 0
	for _, s := range unfit() {
		checkBoot(t, s, small, 3, "\x01")
		u, no := store.Boot(s, small, 3, "\x01")
		if no == api.OK && store.Fits(u, small) {
			boots++
		} else if no != api.ErrArg || !alike(u, s) {
			t.Errorf("%v: %v, %v", s, u, no)
		}
	}
	if boots != 12 {
		t.Errorf("%d boot", boots)
	}
}

// Spoilt places are counted as the device is told: in the page that is whole, or in all, if none is; those that are erased, too.
func TestBootCounts(t *testing.T) {
	a, b, free := reg("a", 1), flags("f", 2), pageOf(5)
	spoilt := pageOf(5, torn(a), written(b), torn(b), noughts(place), torn(a))
	begun := pageOf(5, mark(100, 9), written(a), torn(b))
	for _, c := range []struct {
		f    api.Flash
		lost int
		want api.Store
	}{
		{device(log(4, several(a), torn(b), torn(a)), free, free), 2, api.Store{Book: api.Book{Head: 0, Gen: 4}, Arena: room(2, a)}},
		{device(spoilt, log(4, several(a)), free), 0, api.Store{Book: api.Book{Head: 1, Gen: 4}, Arena: room(2, a)}},
		{device(spoilt, log(4, several(a), noughts(place), torn(b)), begun), 1, api.Store{Book: api.Book{Head: 1, Gen: 9}, Arena: room(2, a)}},
		{device(spoilt, free, begun), 4, api.Store{Book: api.Book{Head: 1, Gen: 10}, Arena: room(2, b, a)}},
		{device(spoilt, begun, spoilt), 7, api.Store{Book: api.Book{Head: 0, Gen: 10}, Arena: room(2, b, a)}},
		{device(free, free, free), 0, api.Store{Book: api.Book{Head: 0, Gen: 1}, Arena: room(2)}},
	} {
		s := api.Store{Flash: c.f, Lost: 10, Next: 1}
		c.want.Lost = 10 + c.lost
		u, no := store.Boot(s, small, -1, "")
		if got := u; no != api.OK || flash.Check(got.Flash) != api.OK {
			t.Errorf("%v: %v, %v", c.f, u, no)
		}
		checkBoot(t, s, small, -1, "")
		u.Flash = api.Flash{}
		if !alike(u, c.want) {
			t.Errorf("%v, not %v", u, c.want)
		}
	}
}

// Beside Recover's error is the device as it is then; the rest is as it was.
func TestBootErrors(t *testing.T) {
	full := pageOf(5, mark(100, 3), written(reg("b", 1)), torn(reg("a", 1)))
	was := api.Store{Book: api.Book{Head: 1, Gen: 5}, Arena: room(2, reg("a", 7)), Lost: 3, Next: 2}
	s := was
	s.Flash = worn(device(full, full, full), 1000, 1000, 1000)
	want := awake(s, 4, "\x7f")
	s.Flash.Dead = true
	if u, no := store.Boot(s, small, 4, "\x7f"); no != api.ErrWorn || !alike(u, want) {
		t.Errorf("worn: %v, %v", u, no)
	}
	// What is worn is erased, and then there is no greater generation.
	s = was
	s.Flash = device(full, full, pageOf(5, mark(100, maxNum)))
	want = awake(s, 3, "")
	want.Flash = worn(device(pageOf(5), full, s.Flash.Pages[2]), 1, 0, 0)
	want.Flash.Fuse = 3
	if u, no := store.Boot(s, small, 4, ""); no != api.ErrWorn || !alike(u, want) {
		t.Errorf("the end of generations: %v, %v", u, no)
	}
	s.Flash = device(full, full, full)
	want = awake(s, 0, "\xff")
	want.Flash.Pages = []string{pageOf(5), full, full}
	want.Flash.Dead = true
	if u, no := store.Boot(s, small, 0, "\xff"); no != api.ErrDead || !alike(u, want) {
		t.Errorf("dead: %v, %v", u, no)
	}
	want = awake(s, 0, "")
	want.Flash.Pages = []string{pageOf(5, mark(100, 4)), full, full}
	want.Flash.Wear, want.Flash.Dead = []int{1, 0, 0}, true
	if u, no := store.Boot(s, small, 2, ""); no != api.ErrDead || !alike(u, want) {
		t.Errorf("dead: %v, %v", u, no)
	}
}

// spoilt has spoilt places in all its pages, and is written on page 1.
func spoilt() api.Store {
	s := on(device(pageOf(5, torn(reg("x", 1))), log(4, several(reg("a", 1)), torn(flags("f", 2)), torn(flags("f", 1))), pageOf(5)), small)
	s.Arena = room(2, reg("a", 1), flags("f", 2))
	return s
}

func TestScrub(t *testing.T) {
	s := spoilt()
	first, free := pageOf(5, noughts(place)), pageOf(5)
	// Page 0 is cleaned, and is not Head.
	s, no := store.Scrub(s, small)
	want := spoilt()
	want.Flash.Pages[0] = first
	want.Lost, want.Next = 1, 1
	if no != api.OK || !alike(s, want) {
		t.Fatalf("%v, %v", s, no)
	}
	// Page 1 is Head: what is held is written to another page, and then there is no free page; the one that is worn least is erased.
	s, no = store.Scrub(s, small)
	want.Flash.Pages = []string{free, log(4, several(reg("a", 1)), noughts(2*place)), log(5, several(reg("a", 1), flags("f", 2)))}
	want.Flash.Wear = []int{1, 0, 0}
	want.Book, want.Lost, want.Next = api.Book{Head: 2, Gen: 5}, 3, 2
	if no != api.OK || !alike(s, want) {
		t.Fatalf("%v, %v", s, no)
	}
	// Page 2 is Head, and has no spoilt place; it is the last one.
	s, no = store.Scrub(s, small)
	want.Next = 0
	if no != api.OK || !alike(s, want) {
		t.Fatalf("%v, %v", s, no)
	}
}

// Where there is no page Next it is page 0 that is scrubbed.
func TestScrubNext(t *testing.T) {
	for _, c := range []struct{ next, page int }{{0, 0}, {1, 1}, {2, 2}, {3, 0}, {-1, 0}, {math.MaxInt, 0}, {math.MinInt, 0}} {
		for head := range 3 {
			s := spoilt()
			s.Flash = device(pageOf(5), pageOf(5), pageOf(5))
			s.Book.Head = head
			s.Flash.Pages[head] = log(4, nil)
			s.Flash.Pages[c.page] = log(4, nil, torn(reg("x", 1)))
			s.Next = c.next
			checkScrub(t, s, small)
			u, no := store.Scrub(s, small)
			moved := u.Book != s.Book
			if no != api.OK || u.Next != (c.page+1)%3 || u.Lost != 1 || moved != (c.page == head) || u.Flash.Pages[c.page] == s.Flash.Pages[c.page] {
				t.Errorf("Next %d, Head %d: %v, %v", c.next, head, u, no)
			}
			// Once more round nothing is spoilt any more.
			for range 3 {
				u, _ = store.Scrub(u, small)
			}
			if u.Lost != 1 || u.Next != (c.page+1)%3 {
				t.Errorf("Next %d, Head %d: %v in the end", c.next, head, u)
			}
		}
	}
}

// Where nothing is spoilt no step is taken: a dead device is scrubbed as well.
func TestScrubNothing(t *testing.T) {
	s := on(device(log(4, several(reg("a", 1)), noughts(place)), pageOf(5), pageOf(5)), small)
	s.Flash.Dead = true
	for i := range 7 {
		s.Next = i % 3
		u, no := store.Scrub(s, small)
		want := twin(s)
		want.Next = (i + 1) % 3
		if no != api.OK || !alike(u, want) {
			t.Errorf("%v, %v", u, no)
		}
	}
}

// Where the page is Head, and there is none to rotate to, it is cleaned all the same.
func TestScrubWorn(t *testing.T) {
	s := spoilt()
	s.Flash.Pages[0], s.Flash.Pages[2] = pageOf(5, mark(100, 1)), pageOf(5, mark(100, 2))
	s.Lost, s.Next = 6, 1
	want := twin(s)
	want.Flash.Pages[1] = log(4, several(reg("a", 1)), noughts(2*place))
	want.Lost, want.Next = 8, 2
	if u, no := store.Scrub(s, small); no != api.ErrWorn || !alike(u, want) {
		t.Errorf("%v, %v", u, no)
	}
	s.Flash.Pages[2], want.Flash.Pages[2] = pageOf(5), pageOf(5)
	for _, gen := range []int{-1, maxNum, math.MaxInt} {
		s.Book.Gen, want.Book.Gen = gen, gen
		if u, no := store.Scrub(s, small); no != api.ErrWorn || !alike(u, want) {
			t.Errorf("generation %d: %v, %v", gen, u, no)
		}
	}
	// Next is moved on also where that is told of page 0, as there is no page Next.
	s.Book = api.Book{Head: 0, Gen: -1}
	s.Flash.Pages[0], s.Next = s.Flash.Pages[1], 77
	want.Book, want.Next = s.Book, 1
	want.Flash.Pages = []string{want.Flash.Pages[1], s.Flash.Pages[1], s.Flash.Pages[2]}
	if u, no := store.Scrub(s, small); no != api.ErrWorn || !alike(u, want) {
		t.Errorf("page 0: %v, %v", u, no)
	}
}

// Death in Clean leaves all but the device as it was; death in Rotate, behind it, leaves the book alone.
func TestScrubDies(t *testing.T) {
	s := spoilt()
	s.Lost, s.Next = 1, 1
	cleaned := log(4, several(reg("a", 1)), noughts(2*place))
	// Each of the two places takes two steps; of two slots there are four records, and then the erase.
	for fuse := range 9 {
		u, no := store.Scrub(awake(s, fuse, ""), small)
		lost, next := 1, 1
		if fuse >= 4 {
			lost, next = 3, 2
		}
		if no != api.ErrDead || u.Lost != lost || u.Next != next || u.Book != s.Book || !u.Flash.Dead || !alikeArenas(u.Arena, s.Arena) || (u.Flash.Pages[1] == cleaned) != (fuse >= 4) {
			t.Errorf("fuse %d: %v, %v", fuse, u, no)
		}
		checkScrub(t, awake(s, fuse, "\x33"), small)
	}
	u, no := store.Scrub(awake(s, 9, ""), small)
	if no != api.OK || u.Lost != 3 || u.Next != 2 || u.Book != (api.Book{Head: 2, Gen: 5}) || u.Flash.Fuse != 0 || u.Flash.Dead {
		t.Errorf("fuse 9: %v, %v", u, no)
	}
	s.Flash.Dead = true
	if u, no := store.Scrub(s, small); no != api.ErrDead || !alike(u, s) {
		t.Errorf("dead: %v, %v", u, no)
	}
}

// P2: what rotted is written again by a scrub, wherever it is, and is there behind a boot.
func TestWhatRottedIsWrittenAgain(t *testing.T) {
	for _, c := range sizes() {
		s := start(t, c)
		s, _, _, _ = store.Merge(s, c, several(reg("a", 1), counter("b", 2, 1), reg("a", 3)))
		for at := range 3*place - 3 {
			for _, turn := range []string{"\x01", "\xff\xff\xff\xff", "\x00\x80\x01"} {
				rotten := s
				rotten.Flash, _ = flash.Rot(s.Flash, 0, at, turn)
				u, no := store.Scrub(rotten, c)
				if no != api.OK || u.Lost < 1 || u.Lost > 2 || u.Next != 1 || u.Book != (api.Book{Head: 1, Gen: 2}) || !alikeArenas(u.Arena, s.Arena) {
					t.Fatalf("%v, %q at %d: %v, %v", c, turn, at, u, no)
				}
				v, no := store.Boot(u, c, -1, "")
				if no != api.OK || v.Lost != u.Lost || v.Book != u.Book || !arena.Alike(v.Arena, s.Arena) {
					t.Fatalf("%v, %q at %d: %v, %v", c, turn, at, v, no)
				}
			}
		}
	}
}
