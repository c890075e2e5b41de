package store_test

import (
	"slices"
	"strings"
	"testing"

	"ouroboros/api"
	"ouroboros/arena"
	"ouroboros/book"
	"ouroboros/config"
	"ouroboros/flash"
	"ouroboros/store"
)

// torns are choices of the bits that a torn step does.
func torns() []string {
	return []string{"", "\xff", "\x0f", "\xf0\x0f", "\x01", "\x00\x00\x80", strings.Repeat("\xff\x00\xff", 21), noughts(46) + "\xff", ones(46) + "\x00\x10"}
}

// update is one that changes a store of those slots, which had those ahead of it.
func update(c api.Config, i int) api.Entry {
	key := string(byte('a' + i%c.Slots))
	switch i % c.Slots % 3 {
	case 0:
		return flags(key, 1<<(i%64))
	case 1:
		return reg(key, i)
	}
	return counter(key, i, i)
}

// checkBoots boots what died: at once, and, if it is asked for, behind a second death in each step of that. What it holds then is one of those arenas.
func checkBoots(t *testing.T, s api.Store, c api.Config, torn string, again bool, held ...api.Arena) {
	t.Helper()
	checkBooted(t, s, c, held...)
	if !again {
		return
	}
	for fuse := range 20 {
		u, no := store.Boot(s, c, fuse, torn)
		if no == api.OK {
			return
		}
		if no != api.ErrDead || u.Book != s.Book || u.Lost != s.Lost || u.Next != s.Next || !alikeArenas(u.Arena, s.Arena) {
			t.Fatalf("%v: a second death at %d: %v, %v", c, fuse, u, no)
		}
		checkBooted(t, u, c, held...)
	}
	t.Fatalf("%v: a boot takes 20 steps", c)
}

func checkBooted(t *testing.T, s api.Store, c api.Config, held ...api.Arena) {
	t.Helper()
	u, no := store.Boot(s, c, 1000, "")
	if no != api.OK || !slices.ContainsFunc(held, func(a api.Arena) bool { return arena.Alike(a, u.Arena) }) {
		t.Fatalf("%v: a boot tells %v, %v, which is none of %v", c, u.Arena, no, held)
	}
	if 1000-u.Flash.Fuse > config.Work(c) || !store.Fits(u, c) || book.Find(u.Flash) != u.Book || book.Free(u.Flash, u.Book.Head) < 0 || u.Next != 0 {
		t.Fatalf("%v: a boot in %d steps tells %v", c, 1000-u.Flash.Fuse, u)
	}
	v, is, no := store.Join(u, c, update(c, 12345))
	if w, bootNo := store.Boot(v, c, -1, ""); no != api.OK || !is || bootNo != api.OK || !alikeArenas(w.Arena, v.Arena) {
		t.Fatalf("%v: behind a boot %v, %v is joined, %v", c, is, no, bootNo)
	}
}

// P4: wherever it dies in a Join, whichever bits are done, a boot tells what was held, or that and the entry.
func TestDeathsInJoin(t *testing.T) {
	t.Parallel()
	for _, c := range sizes()[:3] {
		s := start(t, c)
		for i := 1; i <= 2*c.Room+3; i++ {
			e := update(c, i)
			u, is, no := store.Join(awake(s, 1000, ""), c, e)
			if no != api.OK || !is {
				t.Fatalf("%v, %d: %v, %v", c, i, is, no)
			}
			for fuse := range 1000 - u.Flash.Fuse {
				for _, torn := range torns() {
					dying := awake(s, fuse, torn)
					checkJoin(t, dying, c, e)
					v, is, no := store.Join(dying, c, e)
					if no != api.ErrDead || is || !v.Flash.Dead || v.Book != s.Book || !alikeArenas(v.Arena, s.Arena) {
						t.Fatalf("%v, %d, death %d: %v, %v, %v", c, i, fuse, v, is, no)
					}
					checkBoots(t, v, c, torn, i%4 == 0, s.Arena, u.Arena)
				}
			}
			s = awake(u, -1, "")
		}
	}
}

// Of a Merge what was told is held, and of what was not at most the one entry at which it died.
func TestDeathsInMerge(t *testing.T) {
	t.Parallel()
	for _, c := range sizes()[:3] {
		var l []api.Entry
		for i := 1; i <= 2*c.Room; i++ {
			l = append(l, update(c, i), reg("", i), update(c, i))
		}
		s := start(t, c)
		for fuse := range 2*c.Room + 8 {
			for _, torn := range torns() {
				dying := awake(s, fuse, torn)
				checkMerge(t, dying, c, l)
				u, some, wrong, no := store.Merge(dying, c, l)
				if (no == api.ErrDead) != (len(some) < 2*c.Room) || no != api.OK && no != api.ErrDead {
					t.Fatalf("%v, fuse %d: %d, %v", c, fuse, len(some), no)
				}
				if wrong != len(some) {
					t.Fatalf("%v, fuse %d: %d changes, %d errors", c, fuse, len(some), wrong)
				}
				with := u.Arena
				if no == api.ErrDead {
					with, _, _ = arena.Join(with, update(c, len(some)+1))
				}
				checkBoots(t, u, c, torn, fuse%5 == 0, u.Arena, with)
			}
		}
	}
}

// A scrub that dies loses nothing of what was written: what is spoilt here are entries that were torn.
func TestDeathsInScrub(t *testing.T) {
	t.Parallel()
	for _, c := range sizes()[:3] {
		for _, torn := range torns()[1:] {
			s := start(t, c)
			for i := 1; i <= c.Room; i++ {
				u, _, no := store.Join(awake(s, i%2-1, torn), c, update(c, i))
				if no != api.OK && no != api.ErrDead {
					t.Fatal(no)
				}
				s, _ = store.Boot(u, c, -1, "")
			}
			for next := range c.Pages {
				s.Next = next
				checkDeathsInScrub(t, s, c)
			}
		}
	}
}

func checkDeathsInScrub(t *testing.T, s api.Store, c api.Config) {
	t.Helper()
	whole, no := store.Scrub(awake(s, 1000, ""), c)
	if no != api.OK {
		t.Fatal(no)
	}
	checkBooted(t, whole, c, s.Arena)
	for fuse := range 1000 - whole.Flash.Fuse {
		for _, torn := range torns() {
			dying := awake(s, fuse, torn)
			checkScrub(t, dying, c)
			u, no := store.Scrub(dying, c)
			if no != api.ErrDead || u.Book != s.Book || !u.Flash.Dead {
				t.Fatalf("%v, fuse %d: %v, %v", c, fuse, u, no)
			}
			checkBoots(t, u, c, torn, fuse%3 == 0, s.Arena)
		}
	}
}

// A boot that dies is told as the document says, on machines that have no free page, or no page that is whole.
func TestDeathsInBoot(t *testing.T) {
	t.Parallel()
	a, b := reg("a", 1), flags("f", 2)
	full, begun := log(4, several(a), torn(b)), pageOf(5, mark(100, 5), written(b), torn(a))
	for _, f := range []api.Flash{
		device(full, begun, begun),
		worn(device(full, begun, begun), 1, 9, 3),
		device(begun, pageOf(5), pageOf(5)),
		device(begun, begun, begun),
		device(pageOf(5), pageOf(5), pageOf(5)),
	} {
		s := api.Store{Flash: f, Book: api.Book{Head: 2, Gen: 2}, Arena: room(2, flags("x", 9)), Lost: 8, Next: 1}
		whole, no := store.Boot(s, small, 1000, "")
		if no != api.OK || whole.Flash.Fuse == 1000 {
			t.Fatalf("%v, %v", whole, no)
		}
		for fuse := range 1000 - whole.Flash.Fuse {
			for _, torn := range torns() {
				checkBoot(t, s, small, fuse, torn)
				u, no := store.Boot(s, small, fuse, torn)
				was := twin(s)
				was.Flash = u.Flash
				if no != api.ErrDead || !u.Flash.Dead || !alike(u, was) {
					t.Fatalf("fuse %d: %v, %v", fuse, u, no)
				}
				for again := range 8 {
					checkBoot(t, u, small, again, torn)
				}
				if v, no := store.Boot(u, small, -1, ""); no != api.OK || !arena.Below(v.Arena, room(2, a, b)) || !store.Fits(v, small) {
					t.Fatalf("fuse %d: %v, %v", fuse, v, no)
				}
			}
		}
	}
}

// However often it dies, what was told OK is not lost, and nothing is there that was not asked for; scrubs in between change nothing of that.
func TestManyDeaths(t *testing.T) {
	t.Parallel()
	for _, c := range sizes() {
		for j, torn := range torns() {
			s := start(t, c)
			for i := 1; i <= 150; i++ {
				e := update(c, i)
				u, is, no := store.Join(awake(s, (i*7+j)%11, torn), c, e)
				if no == api.OK && is {
					u, no = store.Scrub(u, c)
				}
				if no == api.OK {
					s = u
					continue
				}
				with, _, _ := arena.Join(s.Arena, e)
				u, no = bootOften(u, c, i, torn)
				if no != api.OK || !arena.Alike(u.Arena, s.Arena) && !arena.Alike(u.Arena, with) {
					t.Fatalf("%v, %d: %v, %v, neither %v nor %v", c, i, u.Arena, no, s.Arena, with)
				}
				s = u
			}
			checkSize(t, s, c)
		}
	}
}

// bootOften dies a few times, and is left alone then.
func bootOften(s api.Store, c api.Config, i int, torn string) (api.Store, api.Errno) {
	for _, fuse := range []int{i % 3, i % 2, i % 5} {
		if u, no := store.Boot(s, c, fuse, torn); no != api.OK {
			s = u
		}
	}
	return store.Boot(s, c, -1, "")
}

// checkSize asks for what config.Footprint tells of one device, as P6 does.
func checkSize(t *testing.T, s api.Store, c api.Config) {
	t.Helper()
	size := config.Footprint(c)
	if len(s.Flash.Pages) != size[0] || len(s.Arena.Slots) > size[2] || flash.Check(s.Flash) != api.OK || arena.Check(s.Arena) != api.OK {
		t.Fatalf("%v: %v", c, s)
	}
	for _, p := range s.Flash.Pages {
		if len(p) != size[1] {
			t.Fatalf("%v: a page of %d bytes", c, len(p))
		}
	}
}

// A scrub that dies where bytes rotted leaves a device that boots, and holds nothing that was not there.
func TestDeathsWhereBytesRotted(t *testing.T) {
	t.Parallel()
	for _, c := range sizes()[:3] {
		s := start(t, c)
		for i := 1; i <= c.Room+1; i++ {
			s, _, _, _ = store.Merge(s, c, several(update(c, i)))
		}
		s.Next = s.Book.Head
		for at := 0; at < 4*place; at += 29 {
			rotten := s
			rotten.Flash, _ = flash.Rot(s.Flash, s.Book.Head, at, "\x81\x01\xff")
			for fuse := range 20 {
				for _, torn := range torns() {
					u, no := store.Scrub(awake(rotten, fuse, torn), c)
					v, bootNo := store.Boot(u, c, -1, "")
					if no != api.OK && no != api.ErrDead || bootNo != api.OK || !arena.Below(v.Arena, s.Arena) {
						t.Fatalf("%v, byte %d, fuse %d: %v, %v, %v", c, at, fuse, v, no, bootNo)
					}
					if no == api.OK && !alikeArenas(v.Arena, s.Arena) {
						t.Fatalf("%v, byte %d, fuse %d: %v, not %v", c, at, fuse, v, s)
					}
				}
			}
		}
	}
}
