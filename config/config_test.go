package config_test

import (
	"math"
	"strings"
	"testing"

	"ouroboros/api"
	"ouroboros/config"
	"ouroboros/flash"
	"ouroboros/page"
)

// maxNum is 2147483647, and recordSize how many bytes a record of 42 has: both by the document, not by the packages.
const (
	maxNum     = 2147483647
	recordSize = 92
)

// least and greatest are configs of which each number is as small, and as large, as it may be there.
func least() api.Config {
	return api.Config{Nodes: 2, Slots: 1, Pages: 3, Room: 4, Chunk: 1, Buffer: 1, Queue: 2, Wear: 1}
}

func greatest() api.Config {
	return api.Config{Nodes: 8, Slots: 8, Pages: 6, Room: 24, Chunk: 4, Buffer: 8, Queue: 8, Wear: maxNum}
}

// bases are configs that may be, of each number of slots and of each chunk.
func bases() []api.Config {
	out := []api.Config{least(), greatest()}
	for slots := 1; slots <= 8; slots++ {
		for chunk := 1; chunk <= 4; chunk++ {
			for _, room := range []int{slots + 3, 12, 24} {
				out = append(out, api.Config{Nodes: 2 + slots%7, Slots: slots, Pages: 3 + chunk%4, Room: room, Chunk: chunk, Buffer: slots, Queue: 2 + slots%7, Wear: slots * 1000})
			}
		}
	}
	return out
}

// places are a config's numbers, by name, each as what can be written to, and what it may be by the document, the others as they are.
func places(c *api.Config) []struct {
	name        string
	at          *int
	least, most int
} {
	return []struct {
		name        string
		at          *int
		least, most int
	}{
		{"Nodes", &c.Nodes, 2, 8},
		{"Slots", &c.Slots, 1, min(8, c.Room-3)},
		{"Pages", &c.Pages, 3, 6},
		{"Room", &c.Room, c.Slots + 3, 24},
		{"Chunk", &c.Chunk, 1, 4},
		{"Buffer", &c.Buffer, 1, 8},
		{"Queue", &c.Queue, 2, 8},
		{"Wear", &c.Wear, 1, maxNum},
	}
}

// far are numbers that none of a config's may be; some of them would be one, were they cut to 32 bits, or to 8, or their signs left away.
func far() []int {
	return []int{math.MinInt, math.MinInt + 1, math.MinInt + 4, math.MinInt + 5, -1 << 32, -1<<32 + 4, -maxNum, -256, -252, -24, -8, -5, -4, -3, -2, -1, 0, maxNum + 1, 1 << 32, 1<<32 + 4, 1<<32 + 5, 1 << 62, math.MaxInt - 4, math.MaxInt - 3, math.MaxInt - 1, math.MaxInt}
}

// mayBe is what the document says of Check, number by number.
func mayBe(c api.Config) bool {
	return isIn(c.Nodes, "2345678") && isIn(c.Slots, "12345678") && isIn(c.Pages, "3456") &&
		c.Room >= c.Slots+3 && c.Room <= 24 &&
		isIn(c.Chunk, "1234") && isIn(c.Buffer, "12345678") && isIn(c.Queue, "2345678") &&
		c.Wear >= 1 && c.Wear <= maxNum
}

// isIn tells whether n is one of those digits.
func isIn(n int, digits string) bool {
	return n >= 0 && n <= 9 && strings.Contains(digits, string(rune('0'+n)))
}

// told is all that is told of a config.
type told struct {
	check                      api.Errno
	size, chunks, rounds, work int
	footprint                  [6]int
}

func tell(c api.Config) told {
	return told{config.Check(c), config.Size(c), config.Chunks(c), config.Rounds(c), config.Work(c), config.Footprint(c)}
}

// want is what the document says of a config; chunks are counted one by one.
func want(c api.Config) told {
	if !mayBe(c) {
		return told{check: 1}
	}
	chunks := 0
	for left := c.Slots; left > 0; left -= c.Chunk {
		chunks++
	}
	size := c.Room * recordSize
	return told{
		check:     0,
		size:      size,
		chunks:    chunks,
		rounds:    c.Nodes*chunks + c.Nodes,
		work:      9*c.Slots + 45 + c.Room + c.Room,
		footprint: [6]int{c.Pages, size, c.Slots, c.Buffer + c.Buffer, c.Nodes + c.Nodes, c.Queue},
	}
}

func hold(t *testing.T, c api.Config) {
	t.Helper()
	if got := tell(c); got != want(c) {
		t.Fatalf("of %+v is told %+v, not %+v", c, got, want(c))
	}
}

// refused holds c against noughts, and an error, and nothing else.
func refused(t *testing.T, c api.Config) {
	t.Helper()
	if got := tell(c); got != (told{check: api.ErrArg}) {
		t.Errorf("%+v may not be, and is told %+v", c, got)
	}
}

func allowed(t *testing.T, c api.Config) {
	t.Helper()
	if e := config.Check(c); e != api.OK {
		t.Errorf("%+v may be, and is told %v", c, e)
	}
	hold(t, c)
}

func TestKnownConfigs(t *testing.T) {
	for _, x := range []struct {
		c    api.Config
		want told
	}{
		{least(), told{0, 368, 1, 4, 62, [6]int{3, 368, 1, 2, 4, 2}}},
		{greatest(), told{0, 2208, 2, 24, 165, [6]int{6, 2208, 8, 16, 16, 8}}},
		{api.Config{Nodes: 3, Slots: 5, Pages: 4, Room: 8, Chunk: 2, Buffer: 3, Queue: 5, Wear: 100}, told{0, 736, 3, 12, 106, [6]int{4, 736, 5, 6, 6, 5}}},
		{api.Config{Nodes: 4, Slots: 8, Pages: 5, Room: 11, Chunk: 3, Buffer: 7, Queue: 3, Wear: 2}, told{0, 1012, 3, 16, 139, [6]int{5, 1012, 8, 14, 8, 3}}},
		{api.Config{Nodes: 7, Slots: 6, Pages: 3, Room: 20, Chunk: 2, Buffer: 4, Queue: 6, Wear: maxNum - 1}, told{0, 1840, 3, 28, 139, [6]int{3, 1840, 6, 8, 14, 6}}},
		{api.Config{Nodes: 5, Slots: 8, Pages: 6, Room: 24, Chunk: 1, Buffer: 5, Queue: 7, Wear: 3}, told{0, 2208, 8, 45, 165, [6]int{6, 2208, 8, 10, 10, 7}}},
		{api.Config{Nodes: 6, Slots: 2, Pages: 4, Room: 5, Chunk: 4, Buffer: 8, Queue: 2, Wear: 1}, told{0, 460, 1, 12, 73, [6]int{4, 460, 2, 16, 12, 2}}},
		{api.Config{}, told{check: 1}},
	} {
		if got := tell(x.c); got != x.want {
			t.Errorf("of %+v is told %+v, not %+v", x.c, got, x.want)
		}
	}
}

// Each of the eight numbers one below its least, at its least, at its greatest, and one above it, the others as they may be.
func TestEdgesOfEachNumber(t *testing.T) {
	for _, base := range bases() {
		allowed(t, base)
		for i := range places(&base) {
			for _, edge := range []struct {
				isMost bool
				beside int
			}{{false, -1}, {false, 0}, {true, 0}, {true, 1}} {
				c := base
				p := places(&c)[i]
				*p.at = p.least
				if edge.isMost {
					*p.at = p.most
				}
				*p.at += edge.beside
				if edge.beside == 0 {
					allowed(t, c)
				} else {
					refused(t, c)
				}
			}
		}
	}
}

// The least and the greatest number of all at each place, and others that are far away.
func TestFarNumbers(t *testing.T) {
	for _, base := range bases() {
		for i := range places(&base) {
			for _, n := range far() {
				c := base
				*places(&c)[i].at = n
				refused(t, c)
			}
		}
	}
}

// What is far away at two places at once: the one does not make up for the other.
func TestFarNumbersAtTwoPlaces(t *testing.T) {
	base := greatest()
	for i := range places(&base) {
		for k := range places(&base) {
			for _, n := range far() {
				for _, m := range far() {
					c := base
					*places(&c)[i].at, *places(&c)[k].at = n, m
					refused(t, c)
				}
			}
		}
	}
}

// Room of Slots and 2, and of Slots and 3, for each number of Slots.
func TestRoomBesideSlots(t *testing.T) {
	for slots := 1; slots <= 8; slots++ {
		for _, base := range []api.Config{least(), greatest()} {
			for room := slots - 1; room <= 26; room++ {
				c := base
				c.Slots, c.Room = slots, room
				if room >= slots+3 && room <= 24 {
					allowed(t, c)
				} else {
					refused(t, c)
				}
			}
		}
	}
}

// All numbers at once at, and one beside, their ends.
func TestAllEdgesTogether(t *testing.T) {
	ends := [8][]int{{1, 2, 8, 9}, {0, 1, 8, 9}, {2, 3, 6, 7}, {3, 4, 10, 11, 24, 25}, {0, 1, 4, 5}, {0, 1, 8, 9}, {1, 2, 8, 9}, {0, 1, maxNum, maxNum + 1}}
	all := 1
	for _, l := range ends {
		all *= len(l)
	}
	for way := range all {
		var c api.Config
		rest := way
		for i, p := range places(&c) {
			*p.at = ends[i][rest%len(ends[i])]
			rest /= len(ends[i])
		}
		hold(t, c)
	}
}

// All that the four numbers may be on which what is told hangs most, and one beside that.
func TestAllNumbers(t *testing.T) {
	for nodes := 1; nodes <= 9; nodes++ {
		for slots := 0; slots <= 9; slots++ {
			for room := 2; room <= 25; room++ {
				for chunk := 0; chunk <= 5; chunk++ {
					hold(t, api.Config{Nodes: nodes, Slots: slots, Pages: 4, Room: room, Chunk: chunk, Buffer: 3, Queue: 5, Wear: 7})
				}
			}
		}
	}
	for pages := 2; pages <= 7; pages++ {
		for buffer := 0; buffer <= 9; buffer++ {
			for queue := 1; queue <= 9; queue++ {
				for _, wear := range []int{-1, 0, 1, 2, 65536, maxNum - 1, maxNum, maxNum + 1} {
					hold(t, api.Config{Nodes: 3, Slots: 5, Pages: pages, Room: 9, Chunk: 2, Buffer: buffer, Queue: queue, Wear: wear})
				}
			}
		}
	}
}

// Slots that Chunk divides, and that it does not; a Chunk greater than Slots.
func TestChunks(t *testing.T) {
	for i, row := range [4][8]int{
		{1, 2, 3, 4, 5, 6, 7, 8},
		{1, 1, 2, 2, 3, 3, 4, 4},
		{1, 1, 1, 2, 2, 2, 3, 3},
		{1, 1, 1, 1, 2, 2, 2, 2},
	} {
		for k, chunks := range row {
			c := greatest()
			c.Chunk, c.Slots = i+1, k+1
			if got := config.Chunks(c); got != chunks {
				t.Errorf("%d slots in chunks of %d: %d, not %d", c.Slots, c.Chunk, got, chunks)
			}
			if got := config.Rounds(c); got != 8*(chunks+1) {
				t.Errorf("%d slots in chunks of %d: %d rounds, not %d", c.Slots, c.Chunk, got, 8*(chunks+1))
			}
		}
	}
}

// A larger chunk needs no more rounds; a node more needs more, and more slots need no fewer.
func TestRoundsBehindMore(t *testing.T) {
	for _, base := range bases() {
		was := config.Rounds(base)
		chunk, nodes, slots := base, base, base
		chunk.Chunk++
		nodes.Nodes++
		slots.Slots++
		slots.Room = 24
		if now := config.Rounds(chunk); chunk.Chunk <= 4 && (now > was || now < 2*base.Nodes) {
			t.Errorf("%+v: %d rounds, and %d of a larger chunk", base, was, now)
		}
		if now := config.Rounds(nodes); nodes.Nodes <= 8 && now != was+config.Chunks(base)+1 {
			t.Errorf("%+v: %d rounds, and %d of a node more", base, was, now)
		}
		if now := config.Rounds(slots); slots.Slots <= 8 && (now < was || now > was+base.Nodes) {
			t.Errorf("%+v: %d rounds, and %d of a slot more", base, was, now)
		}
	}
}

// A page has room for as many records as the config says, and no byte beside them; of such pages there is a device.
func TestPagesOfThatSize(t *testing.T) {
	for _, c := range bases() {
		size := config.Size(c)
		f, e := flash.New(c.Pages, size)
		if e != api.OK || flash.Check(f) != api.OK {
			t.Fatalf("%+v: there is no device of pages of %d bytes: %v", c, size, e)
		}
		if room := page.Room(f.Pages[0], 42); room != c.Room {
			t.Errorf("%+v: a page of %d bytes has room for %d", c, size, room)
		}
		if room := page.Room(f.Pages[0][1:], 42); room != c.Room-1 {
			t.Errorf("%+v: a page of %d bytes has more than it needs", c, size)
		}
	}
}

// What a call does not name it does not hang on.
func TestWhatIsNotNamedChangesNothing(t *testing.T) {
	for _, base := range bases() {
		was := tell(base)
		for i, p := range places(&base) {
			for n := p.least; n <= min(p.most, p.least+30); n++ {
				c := base
				*places(&c)[i].at = n
				now := tell(c)
				same := map[string]bool{
					"size":   now.size == was.size || p.name == "Room",
					"chunks": now.chunks == was.chunks || p.name == "Slots" || p.name == "Chunk",
					"rounds": now.rounds == was.rounds || p.name == "Slots" || p.name == "Chunk" || p.name == "Nodes",
					"work":   now.work == was.work || p.name == "Slots" || p.name == "Room",
				}
				for call, ok := range same {
					if !ok {
						t.Errorf("%+v: another %s, %d, changes the %s", base, p.name, n, call)
					}
				}
				if names := "Pages Room Slots Buffer Nodes Queue"; now.footprint != was.footprint && !strings.Contains(names, p.name) {
					t.Errorf("%+v: another %s, %d, changes the footprint", base, p.name, n)
				}
			}
		}
	}
}

// R3, R4: a config is as it was behind all calls, and the same call tells the same, whatever was done with what it told.
func TestSameCallTellsTheSame(t *testing.T) {
	for _, c := range append(bases(), api.Config{}, api.Config{Nodes: math.MinInt, Room: math.MaxInt}) {
		was, first := c, tell(c)
		footprint := config.Footprint(c)
		for i := range footprint {
			footprint[i] = -77
		}
		tell(greatest())
		tell(api.Config{})
		if again := tell(c); again != first || c != was {
			t.Errorf("%+v is told %+v, then %+v of %+v", was, first, again, c)
		}
	}
}

// P1: whatever is asked, all calls end, none panics, and beside an error stand noughts.
func FuzzAllCalls(f *testing.F) {
	f.Add(2, 1, 3, 4, 1, 1, 2, 1)
	f.Add(8, 8, 6, 24, 4, 8, 8, maxNum)
	f.Add(3, 5, 4, 8, 2, 3, 5, 100)
	f.Add(0, 0, 0, 0, 0, 0, 0, 0)
	f.Add(2, math.MaxInt, 3, math.MinInt+2, 1, 1, 2, 1)
	f.Add(2, math.MinInt, 3, math.MinInt+3, 1, 1, 2, 1)
	f.Add(-1, -1, -1, -1, -1, -1, -1, -1)
	f.Fuzz(func(t *testing.T, nodes, slots, pages, room, chunk, buffer, queue, wear int) {
		c := api.Config{Nodes: nodes, Slots: slots, Pages: pages, Room: room, Chunk: chunk, Buffer: buffer, Queue: queue, Wear: wear}
		hold(t, c)
		hold(t, api.Config{Nodes: nodes & 15, Slots: slots & 15, Pages: pages & 7, Room: room & 31, Chunk: chunk & 7, Buffer: buffer & 15, Queue: queue & 15, Wear: wear & math.MaxInt32})
		near := api.Config{Nodes: 2 + nodes&7, Slots: 1 + slots&7, Pages: 3 + pages&3, Room: 4 + room&31, Chunk: 1 + chunk&3, Buffer: 1 + buffer&7, Queue: 2 + queue&7, Wear: 1 + wear&0xffff}
		hold(t, near)
	})
}
