package arena_test

import (
	"math"
	"reflect"
	"slices"
	"strings"
	"testing"

	"ouroboros/api"
	"ouroboros/arena"
	"ouroboros/entry"
)

func full(n int) []int { return slices.Repeat([]int{n}, 8) }

func reg(key string, time, node int, text string) api.Entry {
	return api.Entry{Key: key, Val: api.Value{Kind: 1, Time: time, Node: node, Text: text}}
}

func count(key string, plus, minus int) api.Entry {
	return api.Entry{Key: key, Val: api.Value{Kind: 2, Plus: full(plus), Minus: full(minus)}}
}

func flags(key string, f uint64) api.Entry {
	return api.Entry{Key: key, Val: api.Value{Kind: 3, Flags: f}}
}

func list(l ...api.Entry) []api.Entry { return l }

func rooms(l ...api.Arena) []api.Arena { return l }

// twin is another one that is alike, shares nothing, and has no list that is nil.
func twin(e api.Entry) api.Entry {
	e.Val.Plus, e.Val.Minus = append([]int{}, e.Val.Plus...), append([]int{}, e.Val.Minus...)
	return e
}

func twins(l []api.Entry) []api.Entry {
	out := make([]api.Entry, len(l))
	for i, e := range l {
		out[i] = twin(e)
	}
	return out
}

func twinOf(a api.Arena) api.Arena {
	return api.Arena{Cap: a.Cap, Slots: twins(a.Slots), Index: append([]int{}, a.Index...)}
}

// Whatever is alike here is so by the library: lists without things are alike.
func alikeEntries(a, b api.Entry) bool { return reflect.DeepEqual(twin(a), twin(b)) }

func alikeLists(a, b []api.Entry) bool { return reflect.DeepEqual(twins(a), twins(b)) }

func alike(a, b api.Arena) bool { return reflect.DeepEqual(twinOf(a), twinOf(b)) }

func oneName(a, b api.Entry) bool { return a.Val.Kind == b.Val.Kind && a.Key == b.Key }

func isAhead(a, b api.Entry) bool {
	return a.Val.Kind < b.Val.Kind || a.Val.Kind == b.Val.Kind && strings.Compare(a.Key, b.Key) < 0
}

// indexOf counts for each slot how many names are ahead of its own; no two may be of one name.
func indexOf(slots []api.Entry) []int {
	out := make([]int, len(slots))
	for place, e := range slots {
		rank := 0
		for _, f := range slots {
			if isAhead(f, e) {
				rank++
			}
		}
		out[rank] = place
	}
	return out
}

// room is an arena of slots that are there already.
func room(cap int, slots ...api.Entry) api.Arena {
	return api.Arena{Cap: cap, Slots: slots, Index: indexOf(slots)}
}

// isArena is what the document says of an arena.
func isArena(a api.Arena) bool {
	if a.Cap < 1 || a.Cap > 8 || len(a.Slots) > a.Cap {
		return false
	}
	for i, e := range a.Slots {
		if entry.Check(e) != api.OK || slices.ContainsFunc(a.Slots[:i], func(f api.Entry) bool { return oneName(e, f) }) {
			return false
		}
	}
	return slices.Equal(a.Index, indexOf(a.Slots))
}

// placeOf is what the document says of the place of a name.
func placeOf(a api.Arena, kind int, key string) int {
	if !isArena(a) {
		return -1
	}
	return slices.IndexFunc(a.Slots, func(e api.Entry) bool { return e.Val.Kind == kind && e.Key == key })
}

// joinOf is what the document says of an entry that is joined.
func joinOf(a api.Arena, e api.Entry) (api.Arena, bool, api.Errno) {
	out := twinOf(a)
	if !isArena(a) || entry.Check(e) != api.OK {
		return out, false, api.ErrForm
	}
	if i := placeOf(a, e.Val.Kind, e.Key); i >= 0 {
		both, _ := entry.Join(a.Slots[i], e)
		out.Slots[i] = both
		return out, !alikeEntries(both, a.Slots[i]), api.OK
	}
	if len(a.Slots) == a.Cap {
		return out, false, api.ErrFull
	}
	out.Slots = append(out.Slots, twin(e))
	out.Index = indexOf(out.Slots)
	return out, true, api.OK
}

func mergeOf(a api.Arena, l []api.Entry) (api.Arena, int, int) {
	changes, errors := 0, 0
	for _, e := range l {
		next, is, no := joinOf(a, e)
		if is {
			changes++
		}
		if no != api.OK {
			errors++
		}
		a = next
	}
	return twinOf(a), changes, errors
}

func allOf(a api.Arena) []api.Entry {
	var out []api.Entry
	if isArena(a) {
		for _, place := range a.Index {
			out = append(out, a.Slots[place])
		}
	}
	return out
}

func chunkOf(a api.Arena, at, n int) []api.Entry {
	if !isArena(a) || at < 0 {
		return nil
	}
	var out []api.Entry
	for i, e := range a.Slots {
		if i >= at && i-at < n {
			out = append(out, e)
		}
	}
	return out
}

func belowOf(a, b api.Arena) bool {
	if !isArena(a) || !isArena(b) {
		return false
	}
	for _, e := range a.Slots {
		place := placeOf(b, e.Val.Kind, e.Key)
		if place < 0 {
			return false
		}
		both, no := entry.Join(e, b.Slots[place])
		if no != api.OK || !alikeEntries(both, b.Slots[place]) {
			return false
		}
	}
	return true
}

// entries are of many names: one key of several kinds, several keys of one kind, and keys that are the beginnings of others.
func entries() []api.Entry {
	return list(
		flags("m", 1), flags("m", 2), flags("m", 3), flags("m", 0), flags("a", 1), flags("z", 1<<63), flags("ma", 4), flags("m\x00", 4), flags("\x00", 4), flags("\xff", 4), flags("M", 4), flags("10", 1), flags("9", 1),
		reg("m", 1, 1, "a"), reg("m", 1, 1, "b"), reg("m", 2, 0, ""), reg("a", 1, 1, "a"), reg("z", math.MaxInt32, 7, "12345678"), reg("12345678", 0, 0, ""),
		api.Entry{Key: "m", Val: api.Value{Kind: 1, Time: 1, Node: 1, Dead: true}},
		count("m", 1, 2), count("m", 2, 1), count("m", 0, 0), count("a", 65535, 65535), count("z", 3, 4), twin(flags("m", 5)), twin(reg("m", 1, 1, "a")),
	)
}

// wrongEntries are none: by their key, or by their value.
func wrongEntries() []api.Entry {
	out := list(
		api.Entry{}, api.Entry{Key: "m"}, flags("", 1), flags("123456789", 1), reg("", 1, 1, "a"), count("", 1, 1), flags(strings.Repeat("k", 300), 1),
		reg("m", -1, 0, ""), reg("m", math.MaxInt32+1, 0, ""), reg("m", 1<<32, 0, ""), reg("m", math.MinInt, 0, ""), reg("m", 0, 8, ""), reg("m", 0, -1, ""), reg("m", 0, 0, "123456789"),
		count("m", -1, 0), count("m", 65536, 0), count("m", 0, math.MaxInt),
	)
	for _, v := range []api.Value{
		{Kind: 4}, {Kind: -1}, {Kind: math.MinInt}, {Kind: math.MaxInt}, {Kind: 1<<32 + 3}, {Kind: 256 + 1}, {Kind: 1, Dead: true, Text: "a"}, {Kind: 1, Flags: 1}, {Kind: 1, Plus: full(0)},
		{Kind: 2}, {Kind: 2, Plus: full(1), Minus: full(1)[:7]}, {Kind: 2, Plus: make([]int, 9), Minus: full(1)}, {Kind: 2, Plus: full(1), Minus: full(1), Flags: 1},
		{Kind: 3, Time: 1}, {Kind: 3, Text: "a"}, {Kind: 3, Minus: []int{0}},
	} {
		out = append(out, api.Entry{Key: "m", Val: v})
	}
	return out
}

// many are so many names; neither their order nor the reverse of it is the one of names.
func many(n int) []api.Entry {
	return list(flags("d", 1), reg("d", 2, 1, "x"), count("d", 3, 4), flags("b", 5), reg("x", 6, 7, ""), flags("dd", 8), count("a", 9, 1), flags("c", 10), reg("a", 1, 1, ""))[:n]
}

// arenas may be.
func arenas() []api.Arena {
	var out []api.Arena
	for cap := 1; cap <= 8; cap++ {
		for n := 0; n <= cap; n++ {
			out = append(out, room(cap, many(n)...))
		}
	}
	all := entries()
	for i, e := range all {
		out = append(out, room(1, e))
		for k := 0; k < i; k += 3 {
			if !oneName(e, all[k]) {
				out = append(out, room(2, e, all[k]), room(3, all[k], e))
			}
		}
	}
	return append(out, twinOf(room(2, flags("m", 1))), twinOf(room(4)), room(3, flags("m", 1), reg("m", 1, 1, "a"), count("m", 1, 2)), room(3, count("m", 1, 2), flags("m", 1), reg("m", 1, 1, "a")))
}

// wrongIndexes are none of three slots whose Index is 2, 1, 0.
func wrongIndexes() [][]int {
	return [][]int{
		nil, {}, {2}, {2, 1}, {1, 0}, {2, 0}, {2, 1, 0, 0}, {2, 1, 0, 3}, {2, 1, 0, -1}, {2, 1, 0, 2, 1, 0}, {0, 1, 2}, {0, 2, 1}, {1, 0, 2}, {1, 2, 0}, {2, 0, 1},
		{2, 2, 0}, {2, 1, 1}, {2, 0, 0}, {2, 2, 2}, {1, 1, 0}, {0, 0, 0}, {2, 1, -1}, {-1, 1, 0}, {2, -1, 0}, {-1, -1, -1}, {3, 1, 0}, {2, 3, 0}, {2, 1, 3}, {3, 2, 1},
		{2, 1, 1 << 32}, {2, 1, math.MinInt}, {2, 1, math.MaxInt}, {math.MaxInt, 1, 0}, {math.MinInt, 1, 0}, {1<<32 + 2, 1, 0}, {256 + 2, 1, 0},
	}
}

// wrongArenas may not be: each by one part, or by all.
func wrongArenas() []api.Arena {
	var out []api.Arena
	for _, cap := range []int{0, -1, 9, 10, 16, 256 + 3, 1 << 32, 1<<32 + 3, math.MinInt, math.MaxInt} {
		for _, n := range []int{0, 1, 3, 8, 9} {
			out = append(out, room(cap, many(n)...))
		}
	}
	for cap := 1; cap <= 8; cap++ {
		out = append(out, room(cap, many(cap+1)...))
	}
	three := list(flags("m", 1), count("m", 1, 2), reg("m", 1, 1, "a"))
	for _, index := range wrongIndexes() {
		out = append(out, api.Arena{Cap: 3, Slots: twins(three), Index: index}, api.Arena{Cap: 8, Slots: twins(three), Index: index})
	}
	for _, l := range [][]api.Entry{list(flags("a", 1), flags("a", 1)), list(flags("a", 1), flags("a", 2)), list(reg("b", 1, 1, ""), reg("b", 2, 1, ""))} {
		out = append(out, api.Arena{Cap: 2, Slots: l, Index: []int{0, 1}}, api.Arena{Cap: 4, Slots: l, Index: []int{1, 0}}, api.Arena{Cap: 4, Slots: l, Index: []int{0, 0}}, api.Arena{Cap: 4, Slots: l, Index: []int{0}})
	}
	a, z, other := flags("a", 1), flags("z", 1), reg("z", 1, 1, "")
	out = append(out,
		api.Arena{Cap: 3, Slots: list(a, z, a), Index: []int{0, 2, 1}}, api.Arena{Cap: 3, Slots: list(a, z, flags("a", 7)), Index: []int{0, 2, 1}}, api.Arena{Cap: 3, Slots: list(a, z, a), Index: []int{0, 1, 2}}, api.Arena{Cap: 3, Slots: list(a, other, z, a), Index: []int{1, 0, 3, 2}},
		api.Arena{Cap: 4, Index: []int{0}}, api.Arena{Cap: 4, Index: []int{-1}}, api.Arena{Cap: 4, Slots: list(a)}, api.Arena{Cap: 4, Slots: list(a), Index: []int{1}}, api.Arena{Cap: 4, Slots: list(a), Index: []int{0, 0}}, api.Arena{Cap: 4, Slots: list(a), Index: []int{-1}},
	)
	for _, e := range wrongEntries() {
		out = append(out, room(1, e), room(8, e), room(3, flags("k", 1), e), room(3, e, reg("k", 1, 1, "")), room(3, flags("z", 1), e, reg("a", 1, 1, "")))
	}
	return append(out, api.Arena{Slots: make([]api.Entry, 1000), Index: make([]int, 1000)}, api.Arena{Cap: 8, Slots: make([]api.Entry, 1000), Index: make([]int, 1000)}, api.Arena{Cap: 8, Index: make([]int, 1000)}, api.Arena{Cap: 1000, Slots: many(3), Index: []int{0, 1, 2}})
}

// numbers are all that a number may be asked about in an arena.
func numbers() []int {
	return []int{math.MinInt, math.MinInt + 1, -1 << 32, -2, -1, 0, 1, 2, 3, 4, 5, 6, 7, 8, 9, 100, 1 << 32, math.MaxInt - 1, math.MaxInt}
}

// holdArena holds every call of one arena against the document's words.
func holdArena(t *testing.T, a api.Arena) {
	t.Helper()
	was := twinOf(a)
	want := api.OK
	if !isArena(a) {
		want = api.ErrForm
	}
	if no := arena.Check(a); no != want {
		t.Fatalf("Check(%v): %v, not %v", a, no, want)
	}
	if got := arena.All(a); !alikeLists(got, allOf(a)) {
		t.Fatalf("All(%v): %v, not %v", a, got, allOf(a))
	}
	for _, at := range numbers() {
		for _, n := range numbers() {
			if got := arena.Chunk(a, at, n); !alikeLists(got, chunkOf(a, at, n)) {
				t.Fatalf("Chunk(%v, %d, %d): %v, not %v", a, at, n, got, chunkOf(a, at, n))
			}
		}
	}
	for _, e := range slices.Concat(entries(), a.Slots[:min(9, len(a.Slots))], list(flags("", 1), flags("q", 1), api.Entry{Key: "m"}, api.Entry{Key: "d", Val: api.Value{Kind: 4}})) {
		holdFind(t, a, e.Val.Kind, e.Key)
	}
	if !alike(a, was) {
		t.Fatalf("%v is %v now", was, a)
	}
}

func holdFind(t *testing.T, a api.Arena, kind int, key string) {
	t.Helper()
	if got := arena.Find(a, kind, key); got != placeOf(a, kind, key) {
		t.Fatalf("Find(%v, %d, %q): %d, not %d", a, kind, key, got, placeOf(a, kind, key))
	}
}

// holdTwo holds every call of two arenas against the document's words.
func holdTwo(t *testing.T, a, b api.Arena) {
	t.Helper()
	if got := arena.Below(a, b); got != belowOf(a, b) {
		t.Fatalf("Below(%v, %v): %v", a, b, got)
	}
	if got := arena.Alike(a, b); got != (belowOf(a, b) && belowOf(b, a)) {
		t.Fatalf("Alike(%v, %v): %v", a, b, got)
	}
	if got := arena.Same(a, b); got != alike(a, b) {
		t.Fatalf("Same(%v, %v): %v", a, b, got)
	}
}

// holdJoin holds Join against the document's words, and what holds of it, and tells what it told.
func holdJoin(t *testing.T, a api.Arena, e api.Entry) api.Arena {
	t.Helper()
	was, wasEntry := twinOf(a), twin(e)
	want, changed, no := joinOf(a, e)
	got, gotChanged, gotNo := arena.Join(a, e)
	if !alike(got, want) || gotChanged != changed || gotNo != no {
		t.Fatalf("Join(%v, %v): %v, %v, %v, not %v, %v, %v", a, e, got, gotChanged, gotNo, want, changed, no)
	}
	if !alike(a, was) || !alikeEntries(e, wasEntry) {
		t.Fatalf("%v and %v are %v and %v now", was, wasEntry, a, e)
	}
	if no == api.OK && (!arena.Below(a, got) || !arena.Below(room(1, e), got)) {
		t.Fatalf("Join(%v, %v): %v, and something was lost", a, e, got)
	}
	if no == api.OK && arena.Alike(a, got) == changed {
		t.Fatalf("Join(%v, %v): %v, and changed is %v", a, e, got, changed)
	}
	return got
}

func holdMerge(t *testing.T, a api.Arena, l []api.Entry) api.Arena {
	t.Helper()
	was, wasList := twinOf(a), twins(l)
	want, changes, errors := mergeOf(a, l)
	got, gotChanges, gotErrors := arena.Merge(a, l)
	if !alike(got, want) || gotChanges != changes || gotErrors != errors {
		t.Fatalf("Merge(%v, %v): %v, %d, %d, not %v, %d, %d", a, l, got, gotChanges, gotErrors, want, changes, errors)
	}
	if !alike(a, was) || !alikeLists(l, wasList) {
		t.Fatalf("%v and %v are %v and %v now", was, wasList, a, l)
	}
	return got
}

func TestNew(t *testing.T) {
	for _, cap := range append(numbers(), 10, 16, 255, 256, 257, 1<<32+1, -8) {
		a, no := arena.New(cap)
		if cap < 1 || cap > 8 {
			if no != api.ErrArg || !alike(a, api.Arena{}) {
				t.Errorf("New(%d): %v, %v, not ErrArg", cap, a, no)
			}
			continue
		}
		if no != api.OK || !alike(a, api.Arena{Cap: cap}) || arena.Check(a) != api.OK {
			t.Errorf("New(%d): %v, %v", cap, a, no)
		}
	}
}

func TestCheck(t *testing.T) {
	for _, a := range arenas() {
		if no := arena.Check(a); no != api.OK {
			t.Errorf("Check(%v): %v", a, no)
		}
	}
	for _, a := range wrongArenas() {
		if no := arena.Check(a); no != api.ErrForm {
			t.Errorf("Check(%v): %v, not ErrForm", a, no)
		}
	}
}

// Of three slots one Index alone of all that have up to four places is one.
func TestEveryIndex(t *testing.T) {
	slots := list(count("m", 1, 2), flags("a", 1), reg("z", 1, 1, "a"))
	var try func(index []int)
	try = func(index []int) {
		want := api.ErrForm
		if slices.Equal(index, []int{2, 0, 1}) {
			want = api.OK
		}
		if no := arena.Check(api.Arena{Cap: 4, Slots: slots, Index: index}); no != want {
			t.Errorf("Check of %v: %v, not %v", index, no, want)
		}
		if len(index) < 4 {
			for place := -1; place <= 4; place++ {
				try(append(slices.Clone(index), place))
			}
		}
	}
	try(nil)
}

func TestOneArena(t *testing.T) {
	for _, a := range slices.Concat(arenas(), wrongArenas()) {
		holdArena(t, a)
	}
}

func TestFind(t *testing.T) {
	a := room(8, flags("m", 1), reg("m", 1, 1, "a"), flags("a", 1), count("m", 1, 2), flags("ma", 1), flags("z", 0))
	for _, x := range []struct {
		kind  int
		key   string
		place int
	}{
		{3, "m", 0}, {1, "m", 1}, {3, "a", 2}, {2, "m", 3}, {3, "ma", 4}, {3, "z", 5},
		{1, "a", -1}, {2, "z", -1}, {3, "", -1}, {3, "l", -1}, {3, "m\x00", -1}, {3, "maa", -1}, {3, "zz", -1}, {3, "M", -1}, {3, "123456789", -1},
		{0, "m", -1}, {4, "m", -1}, {-1, "m", -1}, {1<<32 + 3, "m", -1}, {math.MinInt, "m", -1}, {math.MaxInt, "m", -1},
	} {
		if got := arena.Find(a, x.kind, x.key); got != x.place {
			t.Errorf("Find of %d, %q: %d, not %d", x.kind, x.key, got, x.place)
		}
	}
	for cap := 1; cap <= 8; cap++ {
		slots := many(cap)
		for place, e := range slots {
			if got := arena.Find(room(cap, slots...), e.Val.Kind, e.Key); got != place {
				t.Errorf("Find of %v in %v: %d, not %d", e, slots, got, place)
			}
		}
	}
}

func TestFindWhereArenaMayNotBe(t *testing.T) {
	for _, a := range wrongArenas() {
		for _, e := range a.Slots[:min(9, len(a.Slots))] {
			if got := arena.Find(a, e.Val.Kind, e.Key); got != -1 {
				t.Errorf("Find of %v in %v: %d", e, a, got)
			}
		}
		if got := arena.Find(a, 0, ""); got != -1 {
			t.Errorf("Find of nothing in %v: %d", a, got)
		}
	}
}

// Of room for 1 a second name is ErrFull.
func TestJoinWithoutRoom(t *testing.T) {
	a, _ := arena.New(1)
	a, is, no := arena.Join(a, flags("m", 1))
	if !is || no != api.OK || !alike(a, room(1, flags("m", 1))) {
		t.Fatal(a, is, no)
	}
	for _, e := range list(flags("a", 1), flags("z", 1), reg("m", 1, 1, "a"), count("m", 1, 2), flags("mm", 0)) {
		if b, is, no := arena.Join(a, e); is || no != api.ErrFull || !alike(a, b) {
			t.Errorf("a second name %v: %v, %v, %v", e, b, is, no)
		}
	}
	for _, e := range list(flags("m", 1), flags("m", 0)) {
		if b, is, no := arena.Join(a, e); is || no != api.OK || !alike(a, b) {
			t.Errorf("nothing new %v: %v, %v, %v", e, b, is, no)
		}
	}
	if b, is, no := arena.Join(a, flags("m", 2)); !is || no != api.OK || !alike(b, room(1, flags("m", 3))) {
		t.Error(b, is, no)
	}
	for cap := 1; cap <= 8; cap++ {
		slots := many(cap + 1)
		for _, e := range list(slots[cap], flags("\x00", 0), reg("zz", 1, 1, "")) {
			if b, is, no := arena.Join(room(cap, slots[:cap]...), e); is || no != api.ErrFull || !alike(b, room(cap, slots[:cap]...)) {
				t.Errorf("%v in a room of %d that is full: %v, %v, %v", e, cap, b, is, no)
			}
		}
	}
}

// A new name ahead of all others, between them, and behind them, is the last slot; the Index alone has it at its place.
func TestJoinOfNewNames(t *testing.T) {
	was := list(flags("m", 1), reg("m", 1, 1, "a"), flags("d", 1))
	for _, x := range []struct {
		e     api.Entry
		index []int
	}{
		{reg("a", 1, 1, ""), []int{3, 1, 2, 0}}, {reg("m\x00", 0, 0, ""), []int{1, 3, 2, 0}}, {count("m", 0, 0), []int{1, 3, 2, 0}}, {flags("a", 0), []int{1, 3, 2, 0}},
		{flags("e", 0), []int{1, 2, 3, 0}}, {flags("dd", 0), []int{1, 2, 3, 0}}, {flags("n", 0), []int{1, 2, 0, 3}}, {flags("mm", 0), []int{1, 2, 0, 3}},
	} {
		want := api.Arena{Cap: 4, Slots: append(twins(was), x.e), Index: x.index}
		if got, is, no := arena.Join(room(4, was...), x.e); !is || no != api.OK || !alike(got, want) {
			t.Errorf("Join of %v: %v, %v, %v, not %v", x.e, got, is, no, want)
		}
	}
}

// A name that is there comes together with it, at its place, also where there is no more room.
func TestJoinOfNamesThatAreThere(t *testing.T) {
	slots := list(flags("m", 5), reg("m", 3, 1, "b"), count("m", 2, 3), flags("d", 1))
	mixed := func(plus, minus int) api.Entry {
		e := count("m", 2, 3)
		e.Val.Plus[7], e.Val.Minus[0] = plus, minus
		return e
	}
	for _, x := range []struct {
		e, want api.Entry
		place   int
	}{
		{flags("m", 2), flags("m", 7), 0}, {flags("m", 6), flags("m", 7), 0}, {flags("m", 4), flags("m", 5), 0}, {flags("m", 0), flags("m", 5), 0},
		{reg("m", 4, 0, ""), reg("m", 4, 0, ""), 1}, {reg("m", 3, 2, "a"), reg("m", 3, 2, "a"), 1}, {reg("m", 3, 1, "c"), reg("m", 3, 1, "c"), 1},
		{reg("m", 3, 1, "b"), reg("m", 3, 1, "b"), 1}, {reg("m", 3, 1, "a"), reg("m", 3, 1, "b"), 1}, {reg("m", 2, 7, "zz"), reg("m", 3, 1, "b"), 1},
		{count("m", 2, 3), count("m", 2, 3), 2}, {count("m", 1, 2), count("m", 2, 3), 2}, {count("m", 4, 1), count("m", 4, 3), 2}, {count("m", 0, 9), count("m", 2, 9), 2}, {mixed(8, 0), mixed(8, 3), 2}, {mixed(0, 9), mixed(2, 9), 2},
		{flags("d", 2), flags("d", 3), 3},
	} {
		for _, cap := range []int{4, 5} {
			want := room(cap, twins(slots)...)
			want.Slots[x.place] = x.want
			changed := !alikeEntries(slots[x.place], x.want)
			if got, is, no := arena.Join(room(cap, twins(slots)...), x.e); is != changed || no != api.OK || !alike(got, want) {
				t.Errorf("Join of %v: %v, %v, %v, not %v, %v", x.e, got, is, no, want, changed)
			}
		}
	}
}

// R1: what is none is told ahead of a room that is full; and what was told is as it was, arena or not.
func TestJoinRefuses(t *testing.T) {
	for _, a := range rooms(room(1), room(1, flags("m", 1)), room(8, many(8)...), room(3, many(3)...)) {
		for _, e := range wrongEntries() {
			if got, is, no := arena.Join(a, e); is || no != api.ErrForm || !alike(got, a) {
				t.Errorf("Join(%v, %v): %v, %v, %v", a, e, got, is, no)
			}
		}
	}
	for _, a := range wrongArenas() {
		for _, e := range list(flags("m", 1), flags("m", 8), reg("q", 1, 1, ""), flags("a", 2), flags("z", 4), count("m", 5, 5), api.Entry{}) {
			if got, is, no := arena.Join(a, e); is || no != api.ErrForm || !alike(got, a) {
				t.Errorf("Join(%v, %v): %v, %v, %v", a, e, got, is, no)
			}
		}
	}
}

func TestJoinOfAll(t *testing.T) {
	some := slices.Concat(arenas(), wrongArenas())
	all := slices.Concat(entries(), wrongEntries())
	for _, a := range some {
		for _, e := range all {
			holdJoin(t, a, e)
		}
	}
}

func TestMerge(t *testing.T) {
	a := room(3, flags("m", 1))
	for _, x := range []struct {
		l               []api.Entry
		want            []api.Entry
		changes, errors int
	}{
		{nil, list(flags("m", 1)), 0, 0},
		{list(), list(flags("m", 1)), 0, 0},
		{list(flags("m", 1), flags("m", 0), flags("m", 1)), list(flags("m", 1)), 0, 0},
		{list(flags("m", 2), flags("m", 2), flags("m", 4)), list(flags("m", 7)), 2, 0},
		{list(flags("a", 1), reg("m", 1, 1, "x")), list(flags("m", 1), flags("a", 1), reg("m", 1, 1, "x")), 2, 0},
		{list(flags("a", 1), flags("b", 1), flags("c", 1), flags("d", 1), flags("b", 2), flags("b", 3)), list(flags("m", 1), flags("a", 1), flags("b", 3)), 3, 2},
		{list(api.Entry{}, flags("", 1), flags("123456789", 1)), list(flags("m", 1)), 0, 3},
		{list(api.Entry{}, flags("m", 8), flags("", 1), flags("m", 8), count("a", -1, 0), count("a", 1, 0)), list(flags("m", 9), count("a", 1, 0)), 2, 3},
	} {
		got, changes, errors := arena.Merge(a, x.l)
		if changes != x.changes || errors != x.errors || !alike(got, room(3, x.want...)) || !alike(a, room(3, flags("m", 1))) {
			t.Errorf("Merge of %v: %v, %d, %d, not %v, %d, %d", x.l, got, changes, errors, x.want, x.changes, x.errors)
		}
	}
}

// Of an arena that may not be all entries are errors, and it is told as it was.
func TestMergeIntoWhatMayNotBe(t *testing.T) {
	for _, a := range wrongArenas() {
		for _, l := range [][]api.Entry{nil, list(flags("m", 2)), entries(), wrongEntries()} {
			if got, changes, errors := arena.Merge(a, l); changes != 0 || errors != len(l) || !alike(got, a) {
				t.Errorf("Merge(%v, %v): %v, %d, %d", a, l, got, changes, errors)
			}
		}
	}
}

func TestMergeOfAll(t *testing.T) {
	good, wrong := entries(), wrongEntries()
	lists := [][]api.Entry{nil, good, wrong, slices.Concat(good, wrong), slices.Concat(wrong, good), many(9), slices.Repeat(many(9), 3)}
	for i := range good {
		lists = append(lists, good[i:], list(good[i], good[(i*7)%len(good)], wrong[i%len(wrong)], good[(i*5+3)%len(good)]))
	}
	backwards := slices.Clone(good)
	slices.Reverse(backwards)
	lists = append(lists, backwards)
	for i, a := range slices.Concat(arenas(), wrongArenas()) {
		for k, l := range lists {
			if isArena(a) || (i+k)%10 == 0 {
				holdMerge(t, a, l)
			}
		}
	}
}

// A list that is long, and an arena that is long and may not be, end soon.
func TestMergeOfMany(t *testing.T) {
	long := slices.Repeat(slices.Concat(entries(), wrongEntries()), 1000)
	many := api.Arena{Cap: 8, Slots: make([]api.Entry, 100000), Index: make([]int, 100000)}
	if got, changes, errors := arena.Merge(many, long); changes != 0 || errors != len(long) || !alike(got, many) {
		t.Error(changes, errors)
	}
	many.Slots = nil
	if got, changes, errors := arena.Merge(many, long); changes != 0 || errors != len(long) || !alike(got, many) {
		t.Error(changes, errors)
	}
	holdMerge(t, room(8), long[:20000])
}

// orders are all orders of a list.
func orders(l []api.Entry) [][]api.Entry {
	if len(l) == 0 {
		return [][]api.Entry{nil}
	}
	var out [][]api.Entry
	for i, e := range l {
		rest := slices.Concat(l[:i], l[i+1:])
		for _, o := range orders(rest) {
			out = append(out, append(list(e), o...))
		}
	}
	return out
}

// What is joined is there, in whatever order it came; what was there is below what is there.
func TestWhatHolds(t *testing.T) {
	for _, l := range [][]api.Entry{
		list(flags("m", 1), flags("m", 4), reg("m", 1, 1, "a"), reg("m", 1, 1, "b"), count("m", 1, 2), count("m", 2, 1)),
		list(flags("a", 1), flags("b", 2), flags("c", 3), flags("ab", 4), flags("a", 8), flags("b", 1)),
		list(reg("x", 3, 1, ""), reg("x", 3, 2, ""), reg("x", 3, 1, "z"), reg("y", 1, 1, ""), api.Entry{Key: "x", Val: api.Value{Kind: 1, Time: 3, Node: 2, Dead: true}}, flags("x", 1)),
	} {
		first := holdMerge(t, room(6), l)
		for _, o := range orders(l) {
			a := room(6)
			for i, e := range o {
				b := holdJoin(t, a, e)
				for _, f := range o[:i+1] {
					place := arena.Find(b, f.Val.Kind, f.Key)
					if place < 0 || !arena.Below(room(1, f), b) {
						t.Fatalf("%v is not there: %v", f, b)
					}
				}
				a = b
			}
			if !arena.Alike(a, first) || !arena.Alike(first, a) || !alikeLists(arena.All(a), arena.All(first)) {
				t.Fatalf("%v in order %v: not alike %v", a, o, first)
			}
			if b := holdMerge(t, room(6), o); !arena.Same(a, b) {
				t.Fatalf("Merge of %v: %v, not %v", o, b, a)
			}
		}
	}
}

// Eight names in a row, each ahead of the last one, behind it, or now here now there.
func TestFillsUp(t *testing.T) {
	names := "abcdefgh"
	for step := 1; step < 8; step += 2 {
		a, _ := arena.New(8)
		for i := range 8 {
			a = holdJoin(t, a, flags(names[i*step%8:i*step%8+1], 1))
			holdArena(t, a)
		}
		if len(a.Slots) != 8 {
			t.Errorf("%d slots", len(a.Slots))
		}
		for place, e := range arena.All(a) {
			if e.Key != names[place:place+1] {
				t.Errorf("%v at %d", e, place)
			}
		}
		holdJoin(t, a, flags("i", 1))
	}
}

func TestAll(t *testing.T) {
	a := api.Arena{Cap: 5, Slots: list(flags("m", 1), reg("m", 1, 1, "a"), flags("a", 1), count("b", 1, 2)), Index: []int{1, 3, 2, 0}}
	want := list(reg("m", 1, 1, "a"), count("b", 1, 2), flags("a", 1), flags("m", 1))
	if got := arena.All(a); !alikeLists(got, want) {
		t.Errorf("All: %v", got)
	}
	if got := arena.All(room(1)); len(got) != 0 {
		t.Errorf("All of none: %v", got)
	}
	for _, a := range wrongArenas() {
		if got := arena.All(a); len(got) != 0 {
			t.Errorf("All(%v): %v", a, got)
		}
	}
}

// Chunks are by the places of slots, as they came, and not by their names.
func TestChunk(t *testing.T) {
	slots := list(flags("m", 1), reg("m", 1, 1, "a"), flags("a", 1), count("b", 1, 2))
	a := room(5, slots...)
	for _, x := range []struct {
		at, n int
		want  []api.Entry
	}{
		{-1, 9, nil}, {-1, 1, nil}, {math.MinInt, math.MaxInt, nil}, {-1 << 32, 4, nil}, {0, 0, nil}, {0, -1, nil}, {0, math.MinInt, nil}, {3, -1, nil}, {2, 0, nil},
		{0, 1, slots[:1]}, {0, 2, slots[:2]}, {0, 4, slots}, {0, 5, slots}, {0, math.MaxInt, slots}, {1, 1, slots[1:2]}, {1, 2, slots[1:3]}, {2, 2, slots[2:]}, {2, 3, slots[2:]}, {2, math.MaxInt, slots[2:]},
		{3, 1, slots[3:]}, {3, 9, slots[3:]}, {3, math.MaxInt, slots[3:]}, {4, 1, nil}, {5, 1, nil}, {math.MaxInt, 1, nil}, {math.MaxInt, math.MaxInt, nil}, {1 << 32, 1, nil},
	} {
		if got := arena.Chunk(a, x.at, x.n); !alikeLists(got, x.want) {
			t.Errorf("Chunk of %d, %d: %v, not %v", x.at, x.n, got, x.want)
		}
	}
	for _, a := range append(wrongArenas(), room(1), room(8)) {
		for _, at := range []int{-1, 0, 1, 8} {
			if got := arena.Chunk(a, at, 8); len(got) != 0 {
				t.Errorf("Chunk(%v, %d, 8): %v", a, at, got)
			}
		}
	}
}

// Chunk by chunk all slots are told.
func TestChunks(t *testing.T) {
	for _, a := range arenas() {
		for n := 1; n <= 9; n++ {
			var got []api.Entry
			for at := 0; at < len(a.Slots); at += n {
				got = append(got, arena.Chunk(a, at, n)...)
			}
			if !alikeLists(got, a.Slots) {
				t.Fatalf("%v by %d: %v", a, n, got)
			}
		}
	}
}

func TestBelow(t *testing.T) {
	small, great := flags("m", 1), flags("m", 3)
	one, other := reg("d", 3, 1, ""), reg("d", 3, 2, "")
	for _, x := range []struct {
		a, b         api.Arena
		below, above bool
	}{
		{room(1), room(1), true, true},
		{room(1), room(8), true, true},
		{room(1), room(1, small), true, false},
		{room(1, small), room(1, small), true, true},
		{room(1, small), room(8, small), true, true},
		{room(1, small), room(1, great), true, false},
		{room(1, small), room(1, flags("m", 2)), false, false},
		{room(1, small), room(1, flags("n", 3)), false, false},
		{room(1, small), room(1, reg("m", 1, 1, "")), false, false},
		{room(2, small), room(2, small, one), true, false},
		{room(2, small), room(2, one, small), true, false},
		{room(2, small), room(2, one, great), true, false},
		{room(2, small, one), room(2, one, small), true, true},
		{room(2, small, one), room(5, one, small), true, true},
		{room(2, small, one), room(2, other, small), true, false},
		{room(2, small, other), room(2, one, great), false, false},
		{room(3, small, one, count("m", 1, 2)), room(3, count("m", 1, 2), one, small), true, true},
		{room(3, small, one, count("m", 1, 2)), room(3, count("m", 2, 1), one, small), false, false},
		{room(3, small, one, count("m", 1, 2)), room(4, count("m", 2, 2), other, flags("q", 0), great), true, false},
		{room(2, small, one), room(2, small, count("d", 1, 1)), false, false},
	} {
		if arena.Below(x.a, x.b) != x.below || arena.Below(x.b, x.a) != x.above {
			t.Errorf("%v and %v: %v, %v", x.a, x.b, arena.Below(x.a, x.b), arena.Below(x.b, x.a))
		}
		alike := x.below && x.above
		if arena.Alike(x.a, x.b) != alike || arena.Alike(x.b, x.a) != alike {
			t.Errorf("%v and %v alike: %v, %v", x.a, x.b, arena.Alike(x.a, x.b), arena.Alike(x.b, x.a))
		}
	}
}

// Where one may not be nothing is below, nor alike, also with itself.
func TestBelowWhatMayNotBe(t *testing.T) {
	for _, bad := range wrongArenas() {
		for _, a := range rooms(room(1), room(8), room(3, flags("m", 1)), room(8, many(8)...), bad) {
			if arena.Below(a, bad) || arena.Below(bad, a) || arena.Alike(a, bad) || arena.Alike(bad, a) {
				t.Errorf("%v and %v: below or alike", a, bad)
			}
		}
	}
}

// parts are alike, but for one part each, arenas and others.
func parts() []api.Arena {
	base := room(3, flags("m", 1), count("m", 1, 2), reg("m", 1, 1, "a"))
	out := []api.Arena{{}, base}
	for _, change := range []func(*api.Arena){
		func(a *api.Arena) { a.Cap = 4 },
		func(a *api.Arena) { a.Cap = -3 },
		func(a *api.Arena) { a.Cap = 1<<32 + 3 },
		func(a *api.Arena) { a.Slots[0].Key = "n" },
		func(a *api.Arena) { a.Slots[0].Key = "" },
		func(a *api.Arena) { a.Slots[0].Val.Flags = 3 },
		func(a *api.Arena) { a.Slots[1].Val.Plus[7] = 0 },
		func(a *api.Arena) { a.Slots[1].Val.Minus[0] = -2 },
		func(a *api.Arena) { a.Slots[1].Val.Minus = nil },
		func(a *api.Arena) { a.Slots[2].Val.Kind = 4 },
		func(a *api.Arena) { a.Slots[2].Val.Time = 2 },
		func(a *api.Arena) { a.Slots[2].Val.Node = 2 },
		func(a *api.Arena) { a.Slots[2].Val.Dead = true },
		func(a *api.Arena) { a.Slots[2].Val.Text = "" },
		func(a *api.Arena) { a.Slots = a.Slots[:2] },
		func(a *api.Arena) { a.Slots = append(a.Slots, api.Entry{}) },
		func(a *api.Arena) { a.Slots = nil },
		func(a *api.Arena) { a.Slots[0], a.Slots[1] = a.Slots[1], a.Slots[0] },
		func(a *api.Arena) { a.Index[0] = 0 },
		func(a *api.Arena) { a.Index[2] = 2 },
		func(a *api.Arena) { a.Index = a.Index[:2] },
		func(a *api.Arena) { a.Index = append(a.Index, 0) },
		func(a *api.Arena) { a.Index = nil },
	} {
		a := twinOf(base)
		change(&a)
		out = append(out, a)
	}
	return out
}

func TestSame(t *testing.T) {
	for i, a := range parts() {
		for k, b := range parts() {
			if arena.Same(a, twinOf(b)) != (i == k) || arena.Same(twinOf(a), b) != (i == k) {
				t.Errorf("%v and %v: %v", a, b, i != k)
			}
		}
	}
	one, other := room(2, flags("a", 1), flags("b", 1)), room(2, flags("b", 1), flags("a", 1))
	if arena.Same(one, other) || !arena.Alike(one, other) {
		t.Error("other places are not the same, and alike")
	}
	if arena.Same(room(2, flags("a", 1)), room(3, flags("a", 1))) {
		t.Error("another room is the same")
	}
}

func TestAllPairs(t *testing.T) {
	all := slices.Concat(arenas(), parts())
	for i, a := range wrongArenas() {
		if i%3 == 0 {
			all = append(all, a)
		}
	}
	for _, a := range all {
		for _, b := range all {
			if len(a.Slots)+len(b.Slots) < 100 {
				holdTwo(t, a, b)
			}
		}
	}
}

// R5: a list without things may be nil or empty: it is never told which.
func TestListsWithoutThings(t *testing.T) {
	for _, a := range rooms(room(3), room(3, flags("m", 1), reg("m", 1, 1, "a"))) {
		bare, empty := a, twinOf(a)
		if len(a.Slots) == 0 {
			bare.Slots, bare.Index = nil, nil
		}
		if arena.Check(bare) != api.OK || arena.Check(empty) != api.OK || !arena.Same(bare, empty) || !arena.Same(empty, bare) || !arena.Alike(bare, empty) {
			t.Errorf("%v and %v are not alike", bare, empty)
		}
		for _, e := range list(flags("m", 1), twin(flags("m", 1)), flags("a", 1), twin(flags("a", 1))) {
			if !alike(holdJoin(t, bare, e), holdJoin(t, empty, e)) {
				t.Errorf("%v and %v: Join of %v", bare, empty, e)
			}
		}
	}
}

// spoil writes over all that can be reached of entries, behind their ends, too.
func spoil(l []api.Entry) {
	l = l[:cap(l)]
	for i := range l {
		for _, row := range [][]int{l[i].Val.Plus, l[i].Val.Minus} {
			row = row[:cap(row)]
			for k := range row {
				row[k] = -77
			}
		}
		l[i] = api.Entry{Key: "spoilt"}
	}
}

func spoilArena(a api.Arena) {
	spoil(a.Slots)
	index := a.Index[:cap(a.Index)]
	for i := range index {
		index[i] = -77
	}
}

// answers are all arenas and all lists that are told of one arena and some entries.
func answers(a api.Arena, l []api.Entry) ([]api.Arena, [][]api.Entry) {
	fresh, _ := arena.New(a.Cap)
	merged, _, _ := arena.Merge(a, l)
	none, _, _ := arena.Merge(a, nil)
	arenas := rooms(fresh, merged, none)
	for _, e := range l {
		joined, _, _ := arena.Join(a, e)
		arenas = append(arenas, joined)
	}
	return arenas, [][]api.Entry{arena.All(a), arena.Chunk(a, 0, 8), arena.Chunk(a, 1, 1), arena.Chunk(a, len(a.Slots)-1, 1)}
}

// longer has room behind the ends of its lists, where others may write.
func longer(a api.Arena) api.Arena {
	slots, index := make([]api.Entry, len(a.Slots)+4), make([]int, len(a.Index)+4)
	copy(slots, twins(a.Slots))
	copy(index, a.Index)
	for i := range slots {
		rows := make([]int, 40)
		copy(rows, slots[i].Val.Plus)
		copy(rows[20:], slots[i].Val.Minus)
		slots[i].Val.Plus, slots[i].Val.Minus = rows[:len(slots[i].Val.Plus)], rows[20:20+len(slots[i].Val.Minus)]
	}
	return api.Arena{Cap: a.Cap, Slots: slots[:len(a.Slots)], Index: index[:len(a.Index)]}
}

// whole is an arena, and all that is behind the ends of its lists.
func whole(a api.Arena) api.Arena {
	out := twinOf(api.Arena{Cap: a.Cap, Slots: a.Slots[:cap(a.Slots)], Index: a.Index[:cap(a.Index)]})
	for i, e := range a.Slots[:cap(a.Slots)] {
		out.Slots[i].Val.Plus = slices.Clone(e.Val.Plus[:cap(e.Val.Plus)])
		out.Slots[i].Val.Minus = slices.Clone(e.Val.Minus[:cap(e.Val.Minus)])
	}
	return out
}

// R3, R4: what was given is as it was, whatever is asked, and whatever is done with what is told; the same call tells the same.
func TestNothingIsShared(t *testing.T) {
	for _, a := range slices.Concat(arenas(), parts(), wrongArenas()) {
		if len(a.Slots) > 100 || len(a.Index) > 100 {
			continue
		}
		given := longer(a)
		more := longer(api.Arena{Slots: list(count("m", 1, 2), count("n", 3, 4), reg("n", 1, 1, ""), flags("m", 9), count("d", 7, 7), api.Entry{}, api.Entry{Key: "m", Val: api.Value{Kind: 2, Plus: full(1), Minus: full(1)[:3]}})})
		was, wasMore := whole(given), whole(more)
		told, lists := answers(given, more.Slots)
		var kept []api.Arena
		var keptLists [][]api.Entry
		for _, b := range told {
			kept = append(kept, twinOf(b))
			spoilArena(b)
		}
		for _, l := range lists {
			keptLists = append(keptLists, twins(l))
			spoil(l)
		}
		if !alike(whole(given), was) || !alike(whole(more), wasMore) {
			t.Fatalf("%v and %v are %v and %v now", was, wasMore, whole(given), whole(more))
		}
		again, listsAgain := answers(given, more.Slots)
		for i, b := range again {
			if !alike(b, kept[i]) {
				t.Fatalf("%v: %v, then %v", a, kept[i], b)
			}
		}
		for i, l := range listsAgain {
			if !alikeLists(l, keptLists[i]) {
				t.Fatalf("%v: %v, then %v", a, keptLists[i], l)
			}
		}
	}
}

// The lists of one answer share nothing, also where those that were given do.
func TestListsOfOneAnswer(t *testing.T) {
	row := full(4)
	of := func(key string) api.Entry {
		return api.Entry{Key: key, Val: api.Value{Kind: 2, Plus: row, Minus: row}}
	}
	a := room(4, of("b"), of("a"), of("c"))
	bad := api.Arena{Cap: 9, Slots: a.Slots, Index: a.Index}
	told, lists := answers(a, list(of("b"), of("d"), of("d"), of("e"), api.Entry{}))
	others, _ := answers(bad, list(of("d")))
	for _, b := range append(told, others...) {
		lists = append(lists, b.Slots)
	}
	merged, _, _ := arena.Merge(room(8), list(of("b"), of("d"), of("e"), of("f")))
	for _, l := range append(lists, merged.Slots) {
		for i := range l {
			for k, list := range [][]int{l[i].Val.Plus, l[i].Val.Minus} {
				for j := range list {
					if list[j] != 4 {
						t.Fatalf("row %d of slot %d of %v was written over", k, i, l)
					}
					list[j] = -1
				}
				if more := append(list, -1); len(more) != 9 {
					t.Fatal(more)
				}
			}
		}
	}
	if !slices.Equal(row, full(4)) {
		t.Errorf("what was given is %v now", row)
	}
}

// Arenas that came of one arena do not write over each other.
func TestBranches(t *testing.T) {
	a, _, _ := arena.Merge(room(8), list(flags("m", 1), flags("d", 1)))
	b, _, _ := arena.Join(a, flags("a", 1))
	c, _, _ := arena.Join(a, flags("z", 1))
	d, _, _ := arena.Join(a, flags("m", 2))
	for _, x := range []struct{ got, want api.Arena }{
		{a, room(8, flags("m", 1), flags("d", 1))},
		{b, room(8, flags("m", 1), flags("d", 1), flags("a", 1))},
		{c, room(8, flags("m", 1), flags("d", 1), flags("z", 1))},
		{d, room(8, flags("m", 3), flags("d", 1))},
	} {
		if !alike(x.got, x.want) {
			t.Errorf("%v, not %v", x.got, x.want)
		}
	}
}

// entryOf makes an entry of three bytes, of few names, and now and then none.
func entryOf(kind, key, val byte) api.Entry {
	name := "abmz"[key%4:key%4+1] + strings.Repeat("\x00", int(key/4%3))
	switch kind % 8 {
	case 0, 1:
		return reg(name, int(val%5), int(val/5%8), "abc"[:val%4])
	case 2, 3:
		return count(name, int(val%5), int(val/5))
	case 4, 5, 6:
		return flags(name, uint64(val))
	}
	return api.Entry{Key: name[:int(val)%2], Val: api.Value{Kind: int(kind/8) - 3, Flags: uint64(val % 2), Time: int(val) - 200}}
}

func FuzzAllCalls(f *testing.F) {
	f.Add(8, []byte("abcabdabeabf"), []byte{0, 1, 2}, "m", 3, 0, 1)
	f.Add(1, []byte{4, 0, 1, 4, 0, 2, 4, 1, 1}, []byte{0}, "a", 3, -1, 9)
	f.Add(4, []byte{0, 2, 7, 2, 2, 7, 4, 2, 7, 255, 1, 0}, []byte{2, 1, 0}, "m\x00", 1, 2, -1)
	f.Add(9, []byte{1, 1, 1}, []byte{}, "", 0, math.MaxInt, math.MaxInt)
	f.Fuzz(func(t *testing.T, cap int, bytes, places []byte, key string, kind, at, n int) {
		var l []api.Entry
		for i := 0; i+2 < len(bytes) && i < 60; i += 3 {
			l = append(l, entryOf(bytes[i], bytes[i+1], bytes[i+2]))
		}
		a, no := arena.New(cap)
		if (no == api.OK) != (cap >= 1 && cap <= 8) || no != api.OK && no != api.ErrArg {
			t.Fatalf("New(%d): %v, %v", cap, a, no)
		}
		fresh, _ := arena.New(1 + at&7)
		odd := api.Arena{Cap: cap, Slots: l[:min(len(l), len(places))]}
		for _, p := range places {
			odd.Index = append(odd.Index, int(p)-1)
		}
		all := rooms(a, fresh, odd, holdMerge(t, a, l), holdMerge(t, fresh, l), holdMerge(t, odd, l), holdMerge(t, fresh, l[len(l)/2:]), api.Arena{Cap: 1 + n&7, Slots: odd.Slots, Index: odd.Index})
		for _, x := range all {
			holdArena(t, x)
			holdFind(t, x, kind, key)
			if got := arena.Chunk(x, at, n); !alikeLists(got, chunkOf(x, at, n)) {
				t.Fatalf("Chunk(%v, %d, %d): %v", x, at, n, got)
			}
			for _, y := range all {
				holdTwo(t, x, y)
			}
			for _, e := range slices.Concat(l[:min(len(l), 4)], list(api.Entry{Key: key, Val: api.Value{Kind: kind}})) {
				holdJoin(t, x, e)
			}
		}
	})
}
