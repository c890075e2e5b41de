package book_test

import (
	"hash/crc32"
	"reflect"
	"slices"
	"strings"
	"testing"

	"ouroboros/api"
	"ouroboros/arena"
	"ouroboros/config"
	"ouroboros/entry"
	"ouroboros/flash"
)

// What a record of 42 bytes has, and how great a generation may be: by the document, not by the packages.
const (
	size   = 42
	half   = 46
	place  = 92
	maxNum = 2147483647
)

// small has pages of five places: two marks, two slots, and one more.
var small = api.Config{Nodes: 2, Slots: 2, Pages: 3, Room: 5, Chunk: 1, Buffer: 1, Queue: 2, Wear: 1000}

func ones(n int) string { return strings.Repeat("\xff", n) }

func noughts(n int) string { return strings.Repeat("\x00", n) }

func turned(s string) string {
	out := []byte(s)
	for i := range out {
		out[i] = 255 - out[i]
	}
	return string(out)
}

func number(n int) string {
	return string([]byte{byte(n), byte(n >> 8), byte(n >> 16), byte(n >> 24)})
}

// recordOf is what the document says of a record, word by word.
func recordOf(payload string) string {
	sealed := payload + number(int(crc32.ChecksumIEEE([]byte(payload))))
	return sealed + turned(sealed)
}

// markOf is what the document says of a mark, may it be or not.
func markOf(kind, gen int) string {
	return string([]byte{byte(kind)}) + number(gen) + noughts(37)
}

func mark(kind, gen int) string { return recordOf(markOf(kind, gen)) }

func reg(key string, time int) api.Entry {
	return api.Entry{Key: key, Val: api.Value{Kind: 1, Time: time, Node: 1, Text: "text"}}
}

func flags(key string, bits uint64) api.Entry {
	return api.Entry{Key: key, Val: api.Value{Kind: 3, Flags: bits}}
}

func counter(key string, plus, minus int) api.Entry {
	return api.Entry{Key: key, Val: api.Value{Kind: 2, Plus: []int{plus, 0, 0, 0, 0, 0, 0, 0}, Minus: []int{0, 0, 0, 0, 0, 0, 0, minus}}}
}

func bytesOf(e api.Entry) string {
	s, _ := entry.Put(e)
	return s
}

func written(e api.Entry) string { return recordOf(bytesOf(e)) }

// torn is a record of which some bits were not cleared.
func torn(payload string) string {
	return recordOf(payload)[:half] + ones(half)
}

// pageOf is a page of so many places, of which the first ones are these.
func pageOf(room int, places ...string) string {
	s := strings.Join(places, "")
	return s + ones(room*place-len(s))
}

// device has these pages, that were never erased, and does not die.
func device(pages ...string) api.Flash {
	return api.Flash{Pages: pages, Wear: make([]int, len(pages)), Fuse: -1}
}

func worn(f api.Flash, wear ...int) api.Flash {
	f.Wear = wear
	return f
}

func awake(f api.Flash, fuse int, torn string) api.Flash {
	f.Fuse, f.Torn, f.Dead = fuse, torn, false
	return f
}

func room(cap int, l ...api.Entry) api.Arena {
	a, _ := arena.New(cap)
	a, _, _ = arena.Merge(a, l)
	return a
}

// twin is another one that is alike, shares nothing, and has no list that is nil.
func twin(f api.Flash) api.Flash {
	f.Pages, f.Wear = append([]string{}, f.Pages...), append([]int{}, f.Wear...)
	return f
}

func twinOf(a api.Arena) api.Arena {
	slots := []api.Entry{}
	for _, e := range a.Slots {
		e.Val.Plus, e.Val.Minus = append([]int{}, e.Val.Plus...), append([]int{}, e.Val.Minus...)
		slots = append(slots, e)
	}
	return api.Arena{Cap: a.Cap, Slots: slots, Index: append([]int{}, a.Index...)}
}

// Whatever is alike here is so by the library: lists without things are alike.
func alike(a, b api.Flash) bool { return reflect.DeepEqual(twin(a), twin(b)) }

func alikeArenas(a, b api.Arena) bool { return reflect.DeepEqual(twinOf(a), twinOf(b)) }

// sight is what the document says of what one page holds.
type sight struct {
	gen, spoilt int
	whole       bool
	entries     []api.Entry
}

func sightOf(text string) sight {
	var out sight
	for len(text) >= place {
		at := text[:place]
		text = text[place:]
		if at == recordOf(at[:size]) {
			out.read(at[:size])
		} else if at != ones(place) && at != noughts(place) {
			out.spoilt++
		}
	}
	return out
}

func (s *sight) read(payload string) {
	gen := int(payload[1]) + int(payload[2])<<8 + int(payload[3])<<16 + int(payload[4])<<24
	isMark := (payload[0] == 100 || payload[0] == 101) && gen >= 1 && gen <= maxNum && payload[5:] == noughts(37)
	if isMark {
		s.gen, s.whole = max(s.gen, gen), s.whole || payload[0] == 101
	}
	if e, no := entry.Get(payload); no == api.OK {
		s.entries = append(s.entries, e)
	}
}

func isPage(f api.Flash, n int) bool {
	return flash.Check(f) == api.OK && n >= 0 && n < len(f.Pages)
}

func findOf(f api.Flash) api.Book {
	out := api.Book{Head: -1}
	if flash.Check(f) != api.OK {
		return out
	}
	for n, text := range f.Pages {
		s := sightOf(text)
		if s.whole && (out.Head < 0 || s.gen > sightOf(f.Pages[out.Head]).gen) {
			out.Head = n
		}
		out.Gen = max(out.Gen, s.gen)
	}
	return out
}

func loadOf(f api.Flash, b api.Book, room int) (api.Arena, int) {
	a, no := arena.New(room)
	if no != api.OK || flash.Check(f) != api.OK || b.Head != -1 && !isPage(f, b.Head) {
		return api.Arena{}, 0
	}
	spoilt := 0
	for n, text := range f.Pages {
		if b.Head != -1 && b.Head != n {
			continue
		}
		s := sightOf(text)
		spoilt += s.spoilt
		for _, e := range s.entries {
			a, _, _ = arena.Join(a, e)
		}
	}
	return a, spoilt
}

// leastOf sorts those pages by their wear, and those that were erased as often by their numbers.
func leastOf(f api.Flash, such func(n int) bool) int {
	var all []int
	for n := range f.Pages {
		if isPage(f, n) && such(n) {
			all = append(all, n)
		}
	}
	slices.SortStableFunc(all, func(a, b int) int { return f.Wear[a] - f.Wear[b] })
	return append(all, -1)[0]
}

func isFree(f api.Flash, n int) bool { return f.Pages[n] == ones(len(f.Pages[n])) }

func freeOf(f api.Flash, head int) int {
	return leastOf(f, func(n int) bool { return n != head && isFree(f, n) })
}

func worstOf(f api.Flash, head, wear int) int {
	return leastOf(f, func(n int) bool { return n != head && !isFree(f, n) && f.Wear[n] < wear })
}

func fitsOf(f api.Flash, c api.Config) bool {
	return flash.Check(f) == api.OK && config.Check(c) == api.OK && len(f.Pages) == c.Pages && len(f.Pages[0]) == c.Room*place
}

// step is one of a device: what is programmed, and where; or a page that is erased.
type step struct {
	page, at int
	bytes    string
	erases   bool
}

// do takes those steps, one behind the other, up to the first that tells an error.
func do(f api.Flash, steps ...step) (api.Flash, api.Errno) {
	no := api.OK
	for _, s := range steps {
		if s.erases {
			f, no = flash.Erase(f, s.page)
		} else {
			f, no = flash.Program(f, s.page, s.at, s.bytes)
		}
		if no != api.OK {
			return f, no
		}
	}
	return f, api.OK
}

// inOrder are the steps that write those payloads to a free page.
func inOrder(n int, payloads ...string) []step {
	var out []step
	for i, p := range payloads {
		out = append(out, step{page: n, at: i * place, bytes: recordOf(p)})
	}
	return out
}

func rotation(n, gen int, a api.Arena) []step {
	payloads := []string{markOf(100, gen)}
	for _, e := range a.Slots {
		payloads = append(payloads, bytesOf(e))
	}
	return inOrder(n, append(payloads, markOf(101, gen))...)
}

// erasure is the step, if it takes one, behind which there is a free page, if there can be one.
func erasure(f api.Flash, head, wear int) []step {
	worst := worstOf(f, head, wear)
	if freeOf(f, head) >= 0 || worst < 0 {
		return nil
	}
	return []step{{page: worst, erases: true}}
}

func rotateOf(f api.Flash, b api.Book, c api.Config, a api.Arena) (api.Flash, api.Book, api.Errno) {
	if !fitsOf(f, c) || arena.Check(a) != api.OK || a.Cap != c.Slots {
		return f, b, api.ErrArg
	}
	to := freeOf(f, b.Head)
	if b.Gen < 0 || b.Gen >= maxNum || to < 0 {
		return f, b, api.ErrWorn
	}
	f, no := do(f, rotation(to, b.Gen+1, a)...)
	if no != api.OK {
		return f, b, no
	}
	f, no = do(f, erasure(f, to, c.Wear)...)
	return f, api.Book{Head: to, Gen: b.Gen + 1}, no
}

// nextOf is one more than the last place of a page that is not clear.
func nextOf(text string) int {
	next := 0
	for i := 0; (i+1)*place <= len(text); i++ {
		if text[i*place:(i+1)*place] != ones(place) {
			next = i + 1
		}
	}
	return next
}

func writeOf(f api.Flash, b api.Book, c api.Config, a api.Arena, e api.Entry) (api.Flash, api.Book, api.Errno) {
	if !fitsOf(f, c) || arena.Check(a) != api.OK || a.Cap != c.Slots || entry.Check(e) != api.OK || !isPage(f, b.Head) {
		return f, b, api.ErrArg
	}
	next := nextOf(f.Pages[b.Head])
	if next == c.Room {
		return rotateOf(f, b, c, a)
	}
	f, no := do(f, step{page: b.Head, at: next * place, bytes: written(e)})
	return f, b, no
}

func recoverOf(f api.Flash, c api.Config) (api.Flash, api.Book, api.Arena, api.Errno) {
	if !fitsOf(f, c) {
		return f, api.Book{}, api.Arena{}, api.ErrArg
	}
	b := findOf(f)
	a, _ := loadOf(f, b, c.Slots)
	if b.Head < 0 && freeOf(f, -1) < 0 && worstOf(f, -1, c.Wear) < 0 {
		return f, api.Book{}, api.Arena{}, api.ErrWorn
	}
	f, no := do(f, erasure(f, b.Head, c.Wear)...)
	if no == api.OK && b.Head < 0 {
		f, b, no = rotateOf(f, b, c, a)
	}
	if no != api.OK {
		return f, api.Book{}, api.Arena{}, no
	}
	return f, b, a, api.OK
}

func bitOf(s string, i int) bool { return s[i/8]>>(i%8)&1 == 1 }

// decisiveOf is the byte, and the bit of it, that is cleared ahead of all in a spoilt place; false, if none is.
func decisiveOf(at string) (int, int, bool) {
	front, back := at[:half], at[half:]
	for i := range 8 * half {
		if !bitOf(front, i) && !bitOf(back, i) {
			return 0, 0, false
		}
	}
	for i := range 8 * half {
		if bitOf(front, i) && !bitOf(back, i) {
			return i / 8, i % 8, true
		}
		if bitOf(back, i) && !bitOf(front, i) {
			return half + i/8, i % 8, true
		}
	}
	return 0, 0, false
}

func cleaning(n, start int, at string) []step {
	zeroed := step{page: n, at: start, bytes: noughts(place)}
	if i, bit, is := decisiveOf(at); is {
		return []step{{page: n, at: start + i, bytes: string([]byte{255 - 1<<bit})}, zeroed}
	}
	return []step{zeroed}
}

func cleanOf(f api.Flash, n int) (api.Flash, int, api.Errno) {
	if !isPage(f, n) {
		return f, 0, api.ErrArg
	}
	count := 0
	text := f.Pages[n]
	for start := 0; start+place <= len(text); start += place {
		at := text[start : start+place]
		if sightOf(at).spoilt == 0 {
			continue
		}
		var no api.Errno
		if f, no = do(f, cleaning(n, start, at)...); no != api.OK {
			return f, count, no
		}
		count++
	}
	return f, count, api.OK
}

// The model that the other tests hold the calls against is held against what is known.
func TestModel(t *testing.T) {
	if got := bytesOf(flags("k", 5)); got != "\x03\x01k"+noughts(7)+"\x05"+noughts(31) {
		t.Errorf("flags 5 of k: %q", got)
	}
	for _, s := range []string{recordOf(noughts(size)), mark(100, 1), mark(101, maxNum), written(reg("k", 1)), torn(noughts(size))} {
		if len(s) != place {
			t.Errorf("%q has %d bytes", s, len(s))
		}
	}
	s := sightOf(pageOf(7, mark(100, 3), written(reg("k", 1)), torn("x"+noughts(41)), noughts(place), ones(place), mark(101, 2)))
	if s.gen != 3 || !s.whole || s.spoilt != 1 || len(s.entries) != 1 || s.entries[0].Val.Time != 1 {
		t.Errorf("%+v", s)
	}
}
