package book_test

import (
	"slices"
	"strings"
	"testing"

	"ouroboros/api"
	"ouroboros/book"
	"ouroboros/config"
)

// torns are choices of the bits that a torn step does.
func torns() []string {
	return []string{"", "\xff", "\x0f", "\xf0\x0f", "\x01", "\x00\x00\x80", strings.Repeat("\xff\x00\xff", 21), strings.Repeat("\x00", 46) + "\xff", strings.Repeat("\xff", 46) + "\x00\x10"}
}

// rotations are machines of small whose next write takes a rotation, with and without an erase behind it, and one whose next write is appended.
func rotations(t *testing.T) []machine {
	var out []machine
	m := start(t, small)
	for i := 1; len(out) < 6; i++ {
		out = append(out, m)
		a, e := m.with(i)
		f, b, no := book.Write(m.f, m.b, m.c, a, e)
		if no != api.OK {
			t.Fatal(no)
		}
		m = machine{m.c, f, b, a}
	}
	return out
}

// P4: wherever it dies in a write, whichever bits are done, a boot tells what was held, or that and the entry; a second death while it boots does no more.
func TestDeathsInWrites(t *testing.T) {
	t.Parallel()
	for _, c := range sizes() {
		m := start(t, c)
		for i := 1; i <= 3*c.Room; i++ {
			a, e := m.with(i)
			f, b, no := book.Write(awake(m.f, 1000, ""), m.b, c, a, e)
			if no != api.OK {
				t.Fatalf("%v, write %d: %v", c, i, no)
			}
			for fuse := range 1000 - f.Fuse {
				for _, torn := range torns() {
					g, k, no := book.Write(awake(m.f, fuse, torn), m.b, c, a, e)
					// Where just the erase behind a rotation dies the log is on its new page already.
					moved := k.Gen == m.b.Gen+1 && fuse == 1000-f.Fuse-1
					if no != api.ErrDead || !g.Dead || k != m.b && !moved {
						t.Fatalf("%v, write %d, death %d: %v, %v", c, i, fuse, k, no)
					}
					checkBoots(t, m, g, a, torn, i%4 == 0)
				}
			}
			m = machine{c, awake(f, -1, ""), b, a}
		}
	}
}

// checkBoots boots what died while a was written of what m held: at once, and, if it is asked for, behind a second death in each step of that.
func checkBoots(t *testing.T, m machine, f api.Flash, a api.Arena, torn string, again bool) {
	t.Helper()
	checkBoot(t, m, awake(f, -1, ""), a)
	if !again {
		return
	}
	for fuse := range 20 {
		g, b, d, no := book.Recover(awake(f, fuse, torn), m.c)
		if no == api.OK {
			return
		}
		if no != api.ErrDead || b != (api.Book{}) || !alikeArenas(d, api.Arena{}) {
			t.Fatalf("%v: a second death at %d: %v, %v, %v", m.c, fuse, b, d, no)
		}
		checkBoot(t, m, awake(g, -1, ""), a)
	}
	t.Fatalf("%v: a boot takes 20 steps", m.c)
}

func checkBoot(t *testing.T, m machine, f api.Flash, a api.Arena) {
	t.Helper()
	g, b, d, no := book.Recover(awake(f, 1000, ""), m.c)
	if no != api.OK || !alikeArenas(d, m.a) && !alikeArenas(d, a) {
		t.Fatalf("%v: a boot tells %v, %v, neither %v nor %v", m.c, d, no, m.a, a)
	}
	if 1000-g.Fuse > config.Work(m.c) || !book.Fits(g, m.c) || book.Free(g, b.Head) < 0 || book.Find(g) != b {
		t.Fatalf("%v: a boot in %d steps tells %v", m.c, 1000-g.Fuse, b)
	}
	more, e := machine{m.c, g, b, d}.with(99)
	if h, k, no := book.Write(awake(g, -1, ""), b, m.c, more, e); no != api.OK || !holds(h, k, more) {
		t.Fatalf("%v: behind a boot %v, %v is written", m.c, k, no)
	}
}

// holds tells whether just that arena is loaded.
func holds(f api.Flash, b api.Book, a api.Arena) bool {
	d, _ := book.Load(f, book.Find(f), a.Cap)
	return book.Find(f) == b && alikeArenas(d, a)
}

// A new device that dies again and again while it is started comes to be an empty log in the end.
func TestDeathsWhileItStarts(t *testing.T) {
	t.Parallel()
	for _, c := range sizes() {
		for _, torn := range torns() {
			for fuses := range 125 {
				f := device(slices.Repeat([]string{pageOf(c.Room)}, c.Pages)...)
				for _, fuse := range []int{fuses % 5, fuses / 5 % 5, fuses / 25 % 5, 1, 0, 3, 2} {
					g, _, _, no := book.Recover(awake(f, fuse, torn), c)
					if no != api.OK && no != api.ErrDead {
						t.Fatalf("%v, dying by %d: %v", c, fuses, no)
					}
					f = g
				}
				g, b, a, no := book.Recover(awake(f, -1, ""), c)
				if no != api.OK || len(a.Slots) != 0 || a.Cap != c.Slots || book.Find(g) != b || book.Free(g, b.Head) < 0 {
					t.Fatalf("%v, dying by %d: %v, %v, %v", c, fuses, b, a, no)
				}
			}
		}
	}
}

// However often it dies, what was told OK is not lost, and nothing is there that was not written.
func TestManyDeaths(t *testing.T) {
	t.Parallel()
	for _, c := range sizes() {
		for j, torn := range torns() {
			m := start(t, c)
			for i := 1; i <= 200; i++ {
				a, e := m.with(i)
				f, b, no := book.Write(awake(m.f, (i*7+j)%11, torn), m.b, c, a, e)
				if no == api.OK {
					m = machine{c, f, b, a}
					continue
				}
				f, b, d, no := boot(f, c, i, torn)
				if no != api.OK || !alikeArenas(d, m.a) && !alikeArenas(d, a) {
					t.Fatalf("%v, write %d: %v, %v, neither %v nor %v", c, i, d, no, m.a, a)
				}
				m = machine{c, f, b, d}
			}
		}
	}
}

// boot dies a few times, and is left alone then.
func boot(f api.Flash, c api.Config, i int, torn string) (api.Flash, api.Book, api.Arena, api.Errno) {
	for _, fuse := range []int{i % 3, i % 2, i % 5, -1} {
		g, b, a, no := book.Recover(awake(f, fuse, torn), c)
		if no != api.ErrDead {
			return g, b, a, no
		}
		f = g
	}
	return f, api.Book{}, api.Arena{}, api.ErrDead
}

// Each step of a rotation that dies leaves the document's steps up to it, and the book that was; but of the erase the new one.
func TestDeathsInRotate(t *testing.T) {
	for _, m := range rotations(t) {
		for _, torn := range torns() {
			for fuse := range 8 {
				f := awake(m.f, fuse, torn)
				want, k, wantNo := rotateOf(f, m.b, m.c, m.a)
				got, b, no := book.Rotate(f, m.b, m.c, m.a)
				if no != wantNo || b != k || !alike(got, want) {
					t.Fatalf("fuse %d: %v, %v, not %v, %v", fuse, b, no, k, wantNo)
				}
			}
		}
	}
	// Of two slots there are four records, and then the erase.
	old, free := full(6, reg("a", 1)), pageOf(5)
	f, a := device(old, free, old), room(2, reg("a", 1), reg("b", 1))
	for fuse, want := range []api.Book{{Head: 0, Gen: 6}, {Head: 0, Gen: 6}, {Head: 0, Gen: 6}, {Head: 0, Gen: 6}, {Head: 1, Gen: 7}} {
		if g, b, no := book.Rotate(awake(f, fuse, ""), api.Book{Head: 0, Gen: 6}, small, a); no != api.ErrDead || b != want || !g.Dead || g.Wear[0] != 0 {
			t.Errorf("fuse %d: %v, %v", fuse, b, no)
		}
	}
	if g, b, no := book.Rotate(awake(f, 5, ""), api.Book{Head: 0, Gen: 6}, small, a); no != api.OK || b != (api.Book{Head: 1, Gen: 7}) || g.Dead || g.Fuse != 0 || g.Wear[0] != 1 {
		t.Errorf("fuse 5: %v, %v", b, no)
	}
}

// What is left of an entry that was torn is spoilt, or nothing, or all of it; what is written next stands behind it.
func TestTornEntries(t *testing.T) {
	for _, m := range rotations(t)[:1] {
		for at := range 64 {
			for _, b := range []byte{0x01, 0x80, 0xff} {
				torn := noughts(at) + string([]byte{b})
				torn += noughts(64 - len(torn))
				a, e := m.with(1)
				f, _, no := book.Write(awake(m.f, 0, torn), m.b, m.c, a, e)
				if no != api.ErrDead {
					t.Fatal(no)
				}
				d, spoilt := book.Load(f, book.Find(f), m.c.Slots)
				touched := f.Pages[0] != m.f.Pages[0]
				if len(d.Slots) != 0 || (spoilt == 1) != touched || spoilt > 1 || book.Find(f) != m.b {
					t.Fatalf("byte %d: %v, %d spoilt", at, d, spoilt)
				}
				if g, k, no := book.Write(awake(f, -1, ""), m.b, m.c, a, e); no != api.OK || !holds(g, k, a) {
					t.Fatalf("byte %d: %v, %v behind it", at, k, no)
				}
			}
		}
	}
}
