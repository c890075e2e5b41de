package store_test

import (
	"hash/crc32"
	"reflect"
	"strings"
	"testing"

	"ouroboros/api"
	"ouroboros/arena"
	"ouroboros/book"
	"ouroboros/config"
	"ouroboros/entry"
	"ouroboros/flash"
	"ouroboros/store"
)

// What a record of 42 bytes has, and how great a generation may be: by the document, not by the packages.
const (
	size   = 42
	half   = 46
	place  = 92
	maxNum = 2147483647
)

// small has pages of five places: two marks, two slots, and one more.
var small = api.Config{Nodes: 2, Slots: 2, Pages: 3, Room: 5, Chunk: 1, Buffer: 1, Queue: 2, Wear: 1000}

// sizes are configs that may be, of few and of many pages, places and slots.
func sizes() []api.Config {
	return []api.Config{
		small,
		{Nodes: 8, Slots: 1, Pages: 3, Room: 4, Chunk: 4, Buffer: 8, Queue: 8, Wear: 1000},
		{Nodes: 3, Slots: 3, Pages: 4, Room: 9, Chunk: 2, Buffer: 2, Queue: 3, Wear: 1000},
		{Nodes: 2, Slots: 8, Pages: 6, Room: 11, Chunk: 1, Buffer: 1, Queue: 2, Wear: maxNum},
	}
}

func ones(n int) string { return strings.Repeat("\xff", n) }

func noughts(n int) string { return strings.Repeat("\x00", n) }

func turned(s string) string {
	out := []byte(s)
	for i := range out {
		out[i] = 255 - out[i]
	}
	return string(out)
}

func number(n int) string {
	return string([]byte{byte(n), byte(n >> 8), byte(n >> 16), byte(n >> 24)})
}

// recordOf is what the document says of a record, word by word.
func recordOf(payload string) string {
	sealed := payload + number(int(crc32.ChecksumIEEE([]byte(payload))))
	return sealed + turned(sealed)
}

func mark(kind, gen int) string {
	return recordOf(string([]byte{byte(kind)}) + number(gen) + noughts(37))
}

func reg(key string, time int) api.Entry {
	return api.Entry{Key: key, Val: api.Value{Kind: 1, Time: time, Node: 1, Text: "text"}}
}

func flags(key string, bits uint64) api.Entry {
	return api.Entry{Key: key, Val: api.Value{Kind: 3, Flags: bits}}
}

func counter(key string, plus, minus int) api.Entry {
	return api.Entry{Key: key, Val: api.Value{Kind: 2, Plus: []int{plus, 0, 0, 0, 0, 0, 0, 0}, Minus: []int{0, 0, 0, 0, 0, 0, 0, minus}}}
}

func bytesOf(e api.Entry) string {
	s, _ := entry.Put(e)
	return s
}

func written(e api.Entry) string { return recordOf(bytesOf(e)) }

// torn is a record of which some bits were not cleared.
func torn(e api.Entry) string { return written(e)[:half] + ones(half) }

// pageOf is a page of so many places, of which the first ones are these.
func pageOf(room int, places ...string) string {
	s := strings.Join(places, "")
	return s + ones(room*place-len(s))
}

// log is a page of small that is whole, of that generation, and more behind that.
func log(gen int, l []api.Entry, more ...string) string {
	places := []string{mark(100, gen)}
	for _, e := range l {
		places = append(places, written(e))
	}
	return pageOf(5, append(append(places, mark(101, gen)), more...)...)
}

func several(l ...api.Entry) []api.Entry { return l }

// device has these pages, that were never erased, and does not die.
func device(pages ...string) api.Flash {
	return api.Flash{Pages: pages, Wear: make([]int, len(pages)), Fuse: -1}
}

func worn(f api.Flash, wear ...int) api.Flash {
	f.Wear = wear
	return f
}

// awake is that store, of which the device has that fuse.
func awake(s api.Store, fuse int, torn string) api.Store {
	s.Flash.Fuse, s.Flash.Torn, s.Flash.Dead = fuse, torn, false
	return s
}

func room(cap int, l ...api.Entry) api.Arena {
	a, _ := arena.New(cap)
	a, _, _ = arena.Merge(a, l)
	return a
}

// on is the store that is written on that page of a device, and holds what the book tells of it.
func on(f api.Flash, c api.Config) api.Store {
	b := book.Find(f)
	a, _ := book.Load(f, b, c.Slots)
	return api.Store{Flash: f, Book: b, Arena: a}
}

func start(t *testing.T, c api.Config) api.Store {
	t.Helper()
	s, no := store.New(c)
	if no != api.OK {
		t.Fatal(no)
	}
	return s
}

// twin is another one that is alike, shares nothing, and has no list that is nil.
func twin(s api.Store) api.Store {
	s.Flash.Pages, s.Flash.Wear = append([]string{}, s.Flash.Pages...), append([]int{}, s.Flash.Wear...)
	s.Arena.Slots, s.Arena.Index = twins(s.Arena.Slots), append([]int{}, s.Arena.Index...)
	return s
}

func twins(l []api.Entry) []api.Entry {
	out := []api.Entry{}
	for _, e := range l {
		e.Val.Plus, e.Val.Minus = append([]int{}, e.Val.Plus...), append([]int{}, e.Val.Minus...)
		out = append(out, e)
	}
	return out
}

// Whatever is alike here is so by the library: lists without things are alike.
func alike(a, b api.Store) bool { return reflect.DeepEqual(twin(a), twin(b)) }

func alikeEntries(a, b []api.Entry) bool { return reflect.DeepEqual(twins(a), twins(b)) }

func alikeArenas(a, b api.Arena) bool { return alike(api.Store{Arena: a}, api.Store{Arena: b}) }

// The rest is what the document says of each call, word by word.

func newOf(c api.Config) (api.Store, api.Errno) {
	if config.Check(c) != api.OK {
		return api.Store{}, api.ErrArg
	}
	var s api.Store
	s.Flash, _ = flash.New(c.Pages, config.Size(c))
	s.Flash, s.Book, s.Arena, _ = book.Recover(s.Flash, c)
	return s, api.OK
}

func fitsOf(s api.Store, c api.Config) bool {
	isPage := s.Book.Head >= 0 && s.Book.Head < len(s.Flash.Pages)
	return isPage && s.Arena.Cap == c.Slots && arena.Check(s.Arena) == api.OK && book.Fits(s.Flash, c)
}

func joinOf(s api.Store, c api.Config, e api.Entry) (api.Store, bool, api.Errno) {
	if !fitsOf(s, c) {
		return s, false, api.ErrArg
	}
	a, is, no := arena.Join(s.Arena, e)
	if no != api.OK || !is {
		return s, false, no
	}
	f, b, no := book.Write(s.Flash, s.Book, c, a, e)
	switch no {
	case api.OK:
		s.Flash, s.Book, s.Arena = f, b, a
		return s, true, api.OK
	case api.ErrDead:
		s.Flash = f
	}
	return s, false, no
}

func mergeOf(s api.Store, c api.Config, l []api.Entry) (api.Store, []api.Entry, int, api.Errno) {
	if len(l) == 0 {
		return s, nil, 0, api.OK
	}
	// What is ahead of the last one is merged first; where that died nothing is behind it.
	last := len(l) - 1
	s, some, wrong, no := mergeOf(s, c, l[:last])
	if no != api.OK {
		return s, some, wrong, no
	}
	s, is, no := joinOf(s, c, l[last])
	switch {
	case no == api.ErrDead:
		return s, some, wrong, no
	case no != api.OK:
		wrong++
	case is:
		some = append(some, l[last])
	}
	return s, some, wrong, api.OK
}

func bootOf(s api.Store, c api.Config, fuse int, torn string) (api.Store, api.Errno) {
	f, no := flash.Wake(s.Flash, fuse, torn)
	if !book.Fits(s.Flash, c) || no != api.OK {
		return s, api.ErrArg
	}
	_, spoilt := book.Load(f, book.Find(f), c.Slots)
	f, b, a, no := book.Recover(f, c)
	s.Flash = f
	if no == api.OK {
		s = api.Store{Flash: f, Book: b, Arena: a, Lost: s.Lost + spoilt, Next: 0}
	}
	return s, no
}

func scrubOf(s api.Store, c api.Config) (api.Store, api.Errno) {
	if !fitsOf(s, c) {
		return s, api.ErrArg
	}
	n := s.Next
	if n < 0 || n >= c.Pages {
		n = 0
	}
	f, spoilt, no := book.Clean(s.Flash, n)
	s.Flash = f
	if no != api.OK {
		return s, no
	}
	s.Lost += spoilt
	s.Next = n + 1
	if s.Next == c.Pages {
		s.Next = 0
	}
	if spoilt >= 1 && n == s.Book.Head {
		var b api.Book
		f, b, no = book.Rotate(s.Flash, s.Book, c, s.Arena)
		switch no {
		case api.OK:
			s.Flash, s.Book = f, b
		case api.ErrDead:
			s.Flash = f
		}
	}
	return s, no
}

func checkNew(t *testing.T, c api.Config) {
	t.Helper()
	got, no := store.New(c)
	if want, wantNo := newOf(c); no != wantNo || !alike(got, want) {
		t.Fatalf("New(%v): %v, %v, not %v, %v", c, got, no, want, wantNo)
	}
}

func checkFits(t *testing.T, s api.Store, c api.Config) {
	t.Helper()
	if got, want := store.Fits(s, c), fitsOf(s, c); got != want {
		t.Fatalf("Fits(%v, %v): %v", s, c, got)
	}
}

func checkJoin(t *testing.T, s api.Store, c api.Config, e api.Entry) {
	t.Helper()
	got, is, no := store.Join(s, c, e)
	want, wantIs, wantNo := joinOf(s, c, e)
	if no != wantNo || is != wantIs || !alike(got, want) {
		t.Fatalf("Join(%v, %v, %v): %v, %v, %v, not %v, %v, %v", s, c, e, got, is, no, want, wantIs, wantNo)
	}
	checkWork(t, s, got, c)
}

func checkMerge(t *testing.T, s api.Store, c api.Config, l []api.Entry) {
	t.Helper()
	got, some, wrong, no := store.Merge(s, c, l)
	want, wantSome, wantWrong, wantNo := mergeOf(s, c, l)
	if no != wantNo || wrong != wantWrong || !alikeEntries(some, wantSome) || !alike(got, want) {
		t.Fatalf("Merge(%v, %v, %v): %v, %v, %d, %v, not %v, %v, %d, %v", s, c, l, got, some, wrong, no, want, wantSome, wantWrong, wantNo)
	}
}

func checkBoot(t *testing.T, s api.Store, c api.Config, fuse int, torn string) {
	t.Helper()
	got, no := store.Boot(s, c, fuse, torn)
	if want, wantNo := bootOf(s, c, fuse, torn); no != wantNo || !alike(got, want) {
		t.Fatalf("Boot(%v, %v, %d, %q): %v, %v, not %v, %v", s, c, fuse, torn, got, no, want, wantNo)
	}
	if no != api.ErrArg {
		s.Flash.Fuse = fuse
		checkWork(t, s, got, c)
	}
}

func checkScrub(t *testing.T, s api.Store, c api.Config) {
	t.Helper()
	got, no := store.Scrub(s, c)
	if want, wantNo := scrubOf(s, c); no != wantNo || !alike(got, want) {
		t.Fatalf("Scrub(%v, %v): %v, %v, not %v, %v", s, c, got, no, want, wantNo)
	}
	checkWork(t, s, got, c)
}

// checkWork asks, as P6 does, how many steps a device took that was to die behind so many.
func checkWork(t *testing.T, was, is api.Store, c api.Config) {
	t.Helper()
	if steps := was.Flash.Fuse - is.Flash.Fuse; was.Flash.Fuse > 0 && config.Check(c) == api.OK && steps > config.Work(c) {
		t.Fatalf("%v comes to be %v: %d steps", was, is, steps)
	}
}

// checkAll holds all calls against the document.
func checkAll(t *testing.T, s api.Store, c api.Config, l []api.Entry) {
	t.Helper()
	checkFits(t, s, c)
	for _, e := range l {
		checkJoin(t, s, c, e)
	}
	checkMerge(t, s, c, l)
	checkScrub(t, s, c)
	checkBoot(t, s, c, s.Flash.Fuse, s.Flash.Torn)
}

// The helpers that the other tests are made of are held against what is known.
func TestModel(t *testing.T) {
	if got := bytesOf(flags("k", 5)); got != "\x03\x01k"+noughts(7)+"\x05"+noughts(31) {
		t.Errorf("flags 5 of k: %q", got)
	}
	for _, s := range []string{recordOf(noughts(size)), mark(100, 1), mark(101, maxNum), written(reg("k", 1)), torn(reg("k", 1))} {
		if len(s) != place {
			t.Errorf("%q has %d bytes", s, len(s))
		}
	}
	s := on(device(pageOf(5), log(7, several(reg("a", 1)), torn(reg("b", 1))), pageOf(5)), small)
	if s.Book != (api.Book{Head: 1, Gen: 7}) || !alikeArenas(s.Arena, room(2, reg("a", 1))) || !fitsOf(s, small) {
		t.Errorf("%v", s)
	}
}
