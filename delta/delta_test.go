package delta_test

import (
	"math"
	"reflect"
	"slices"
	"strings"
	"testing"

	"ouroboros/api"
	"ouroboros/arena"
	"ouroboros/delta"
)

func full(n int) []int { return slices.Repeat([]int{n}, 8) }

// one is a row of noughts, but for one number.
func one(place, n int) []int {
	out := make([]int, 8)
	out[place] = n
	return out
}

func reg(key string, time, node int, text string) api.Entry {
	return api.Entry{Key: key, Val: api.Value{Kind: 1, Time: time, Node: node, Text: text}}
}

func dead(key string, time, node int) api.Entry {
	return api.Entry{Key: key, Val: api.Value{Kind: 1, Time: time, Node: node, Dead: true}}
}

func count(key string, plus, minus []int) api.Entry {
	return api.Entry{Key: key, Val: api.Value{Kind: 2, Plus: slices.Clone(plus), Minus: slices.Clone(minus)}}
}

func flags(key string, f uint64) api.Entry {
	return api.Entry{Key: key, Val: api.Value{Kind: 3, Flags: f}}
}

func list(l ...api.Entry) []api.Entry { return l }

// twin is another one that is alike, shares nothing, and has no list that is nil.
func twin(e api.Entry) api.Entry {
	e.Val.Plus, e.Val.Minus = append([]int{}, e.Val.Plus...), append([]int{}, e.Val.Minus...)
	return e
}

func twins(l []api.Entry) []api.Entry {
	out := make([]api.Entry, len(l))
	for i, e := range l {
		out[i] = twin(e)
	}
	return out
}

func twinOf(a api.Arena) api.Arena {
	return api.Arena{Cap: a.Cap, Slots: twins(a.Slots), Index: append([]int{}, a.Index...)}
}

func alike(a, b api.Entry) bool { return reflect.DeepEqual(twin(a), twin(b)) }

func alikeLists(a, b []api.Entry) bool { return reflect.DeepEqual(twins(a), twins(b)) }

func isAhead(a, b api.Entry) bool {
	return a.Val.Kind < b.Val.Kind || a.Val.Kind == b.Val.Kind && strings.Compare(a.Key, b.Key) < 0
}

// room is an arena of slots that are there already, none of a name that another one has.
func room(cap int, slots ...api.Entry) api.Arena {
	index := make([]int, len(slots))
	for place, e := range slots {
		rank := 0
		for _, f := range slots {
			if isAhead(f, e) {
				rank++
			}
		}
		index[rank] = place
	}
	return api.Arena{Cap: cap, Slots: slots, Index: index}
}

// valueOf goes through all slots; nil, if there is none of that name, or the arena may not be.
func valueOf(a api.Arena, kind int, key string) *api.Value {
	if arena.Check(a) != api.OK {
		return nil
	}
	for _, e := range a.Slots {
		if e.Val.Kind == kind && e.Key == key {
			return &e.Val
		}
	}
	return nil
}

func isFull(a api.Arena) bool { return len(a.Slots) == a.Cap }

// refusedOf is what the document says ahead of what each update says of itself.
func refusedOf(a api.Arena, node int, key string) api.Errno {
	if arena.Check(a) != api.OK {
		return api.ErrForm
	}
	if node < 0 || node > 7 {
		return api.ErrNode
	}
	if len(key) < 1 || len(key) > 8 {
		return api.ErrLong
	}
	return api.OK
}

// putOf, deleteOf, addOf and setOf are what the document says of the updates.
func putOf(a api.Arena, node int, key, text string) (api.Entry, api.Errno) {
	if no := refusedOf(a, node, key); no != api.OK {
		return api.Entry{}, no
	}
	if len(text) > 8 {
		return api.Entry{}, api.ErrLong
	}
	v := valueOf(a, 1, key)
	if v == nil && isFull(a) {
		return api.Entry{}, api.ErrFull
	}
	if v == nil {
		return reg(key, 1, node, text), api.OK
	}
	if v.Time == 2147483647 {
		return api.Entry{}, api.ErrOverflow
	}
	return reg(key, v.Time+1, node, text), api.OK
}

func deleteOf(a api.Arena, node int, key string) (api.Entry, api.Errno) {
	if no := refusedOf(a, node, key); no != api.OK {
		return api.Entry{}, no
	}
	v := valueOf(a, 1, key)
	if v == nil || v.Dead {
		return api.Entry{}, api.ErrNone
	}
	if v.Time == 2147483647 {
		return api.Entry{}, api.ErrOverflow
	}
	return dead(key, v.Time+1, node), api.OK
}

func addOf(a api.Arena, node int, key string, n int) (api.Entry, api.Errno) {
	if no := refusedOf(a, node, key); no != api.OK {
		return api.Entry{}, no
	}
	if n == 0 || n > 65535 || n < -65535 {
		return api.Entry{}, api.ErrArg
	}
	v := valueOf(a, 2, key)
	if v == nil && isFull(a) {
		return api.Entry{}, api.ErrFull
	}
	plus, minus := 0, 0
	if v != nil {
		plus, minus = v.Plus[node], v.Minus[node]
	}
	if n > 0 && plus+n > 65535 || n < 0 && minus-n > 65535 {
		return api.Entry{}, api.ErrOverflow
	}
	if n > 0 {
		return count(key, one(node, plus+n), full(0)), api.OK
	}
	return count(key, full(0), one(node, minus-n)), api.OK
}

func setOf(a api.Arena, key string, f uint64) (api.Entry, api.Errno) {
	if no := refusedOf(a, 0, key); no != api.OK {
		return api.Entry{}, no
	}
	if valueOf(a, 3, key) == nil && isFull(a) {
		return api.Entry{}, api.ErrFull
	}
	return flags(key, f), api.OK
}

// textOf, sumOf, flagsOf and scanOf are what the document says of reading.
func textOf(a api.Arena, key string) (string, bool) {
	v := valueOf(a, 1, key)
	if v == nil || v.Dead {
		return "", false
	}
	return v.Text, true
}

func sumOf(a api.Arena, key string) (int, bool) {
	v := valueOf(a, 2, key)
	if v == nil {
		return 0, false
	}
	sum := 0
	for i := range 8 {
		sum += v.Plus[i] - v.Minus[i]
	}
	return sum, true
}

func flagsOf(a api.Arena, key string) (uint64, bool) {
	v := valueOf(a, 3, key)
	if v == nil {
		return 0, false
	}
	return v.Flags, true
}

func scanOf(a api.Arena) []api.Entry {
	var out []api.Entry
	for _, e := range arena.All(a) {
		if e.Val.Kind != 1 || !e.Val.Dead {
			out = append(out, e)
		}
	}
	return out
}

// told is what an update told.
type told struct {
	api.Entry
	api.Errno
}

func tell(e api.Entry, no api.Errno) told { return told{e, no} }

func (a told) alike(b told) bool { return a.Errno == b.Errno && alike(a.Entry, b.Entry) }

// holdTold holds what was told against what should be, and what holds of it.
func holdTold(t *testing.T, call string, a api.Arena, got, want told) {
	t.Helper()
	if !got.alike(want) {
		t.Fatalf("%s of %v: %v, %v, not %v, %v", call, a, got.Entry, got.Errno, want.Entry, want.Errno)
	}
	if got.Errno == api.OK {
		// A delta has room, is an entry, and is above what there was, as each update but Set's changes something.
		next, changed, no := arena.Join(a, got.Entry)
		if no != api.OK || !changed && got.Val.Kind != api.KindFlags || !arena.Below(a, next) {
			t.Fatalf("%s of %v: %v, joined: %v, %v, %v", call, a, got.Entry, next, changed, no)
		}
	}
}

func joined(t *testing.T, a api.Arena, e api.Entry) api.Arena {
	t.Helper()
	next, _, no := arena.Join(a, e)
	if no != api.OK {
		t.Fatalf("%v does not join %v: %v", e, a, no)
	}
	return next
}

func holdPut(t *testing.T, a api.Arena, node int, key, text string) {
	t.Helper()
	got := tell(delta.Put(a, node, key, text))
	holdTold(t, "Put", a, got, tell(putOf(a, node, key, text)))
	if got.Errno != api.OK {
		return
	}
	if read, is := delta.Text(joined(t, a, got.Entry), key); read != text || !is {
		t.Fatalf("Put of %q, %q by %d, of %v: reads %q, %v", key, text, node, a, read, is)
	}
}

func holdDelete(t *testing.T, a api.Arena, node int, key string) {
	t.Helper()
	got := tell(delta.Delete(a, node, key))
	holdTold(t, "Delete", a, got, tell(deleteOf(a, node, key)))
	if got.Errno != api.OK {
		return
	}
	next := joined(t, a, got.Entry)
	if read, is := delta.Text(next, key); read != "" || is || len(delta.Scan(next)) != len(delta.Scan(a))-1 {
		t.Fatalf("Delete of %q by %d, of %v: reads %q, %v", key, node, a, read, is)
	}
}

func holdAdd(t *testing.T, a api.Arena, node int, key string, n int) {
	t.Helper()
	got := tell(delta.Add(a, node, key, n))
	holdTold(t, "Add", a, got, tell(addOf(a, node, key, n)))
	if got.Errno != api.OK {
		return
	}
	before, _ := delta.Sum(a, key)
	if read, is := delta.Sum(joined(t, a, got.Entry), key); read != before+n || !is {
		t.Fatalf("Add of %d to %q by %d, of %v: reads %d, %v", n, key, node, a, read, is)
	}
}

func holdSet(t *testing.T, a api.Arena, key string, f uint64) {
	t.Helper()
	got := tell(delta.Set(a, key, f))
	holdTold(t, "Set", a, got, tell(setOf(a, key, f)))
	if got.Errno != api.OK {
		return
	}
	before, _ := delta.Flags(a, key)
	if read, is := delta.Flags(joined(t, a, got.Entry), key); read != before|f || !is {
		t.Fatalf("Set of %x to %q, of %v: reads %x, %v", f, key, a, read, is)
	}
}

func holdReads(t *testing.T, a api.Arena, key string) {
	t.Helper()
	text, is := delta.Text(a, key)
	if want, wantIs := textOf(a, key); text != want || is != wantIs {
		t.Fatalf("Text(%v, %q): %q, %v, not %q, %v", a, key, text, is, want, wantIs)
	}
	sum, is := delta.Sum(a, key)
	if want, wantIs := sumOf(a, key); sum != want || is != wantIs {
		t.Fatalf("Sum(%v, %q): %d, %v, not %d, %v", a, key, sum, is, want, wantIs)
	}
	f, is := delta.Flags(a, key)
	if want, wantIs := flagsOf(a, key); f != want || is != wantIs {
		t.Fatalf("Flags(%v, %q): %x, %v, not %x, %v", a, key, f, is, want, wantIs)
	}
	if got := delta.Scan(a); !alikeLists(got, scanOf(a)) {
		t.Fatalf("Scan(%v): %v, not %v", a, got, scanOf(a))
	}
}

func nodes() []int {
	return []int{0, 1, 3, 6, 7, -1, 8, -8, 9, 16, 255, 256, 1 << 32, 1<<32 + 1, math.MinInt, math.MaxInt}
}

func keys() []string {
	return []string{"k", "z", "12345678", "kk", "k\x00", "\x00", "\xff\xff", "ü", "", "123456789", "1234567\xc3\xbc", strings.Repeat("k", 300)}
}

func texts() []string {
	return []string{"", "a", "12345678", "\x00\x00\x00\x00\x00\x00\x00\x00", "\xff", "öäüß", "123456789", "öäüß!", strings.Repeat("t", 300)}
}

func numbers() []int {
	return []int{0, 1, -1, 2, -2, 100, -100, 65534, -65534, 65535, -65535, 65536, -65536, 1 << 31, -1 << 31, 1 << 32, -1 << 32, 1<<32 + 1, math.MinInt, math.MinInt + 1, math.MaxInt, math.MaxInt - 1}
}

func manyFlags() []uint64 {
	return []uint64{0, 1, 6, 8, 1 << 31, 1 << 32, 1 << 63, math.MaxUint64}
}

// arenas may be: each with room, and without.
func arenas() []api.Arena {
	out := []api.Arena{room(1), room(8), {Cap: 3, Slots: []api.Entry{}, Index: []int{}}}
	mixed := []int{0, 1, 65534, 65535, 7, 65435, 32768, 2}
	other := []int{65535, 65534, 1, 0, 9, 1, 65435, 3}
	for _, e := range list(
		reg("k", 0, 0, ""), reg("k", 1, 7, "a"), reg("k", 4, 2, "12345678"), reg("k", 65535, 2, "a"), reg("k", 2147483646, 3, "a"), reg("k", 2147483647, 3, "a"), reg("k", 2147483647, 7, ""),
		dead("k", 0, 0), dead("k", 4, 7), dead("k", 2147483646, 3), dead("k", 2147483647, 3), reg("12345678", 5, 5, "b"),
		count("k", full(0), full(0)), count("k", full(65535), full(65535)), count("k", mixed, other), count("k", other, mixed), count("k", full(65535), full(0)), count("k", full(0), full(65535)), count("12345678", mixed, other),
		flags("k", 0), flags("k", 6), flags("k", 1<<63), flags("k", math.MaxUint64), flags("12345678", 5),
	) {
		out = append(out, room(1, e), room(2, e), room(8, e), room(2, flags("j", 1), e), room(2, e, reg("l", 1, 1, "l")), room(3, e, dead("a", 1, 1), flags("kk", 3)), room(4, count("z", full(1), full(2)), e, dead("z", 9, 1)))
	}
	return append(out,
		room(3, reg("k", 4, 1, "a"), count("k", mixed, other), flags("k", 9)), room(4, flags("k", 9), count("k", mixed, other), reg("k", 4, 1, "a")), room(3, count("k", mixed, other), dead("k", 2147483647, 1), flags("k", 9)),
		room(8, flags("z", 1), flags("k", 2), dead("z", 1, 1), reg("k", 1, 1, "k"), count("z", full(1), full(0)), dead("k\x00", 2, 0), reg("b", 7, 7, ""), dead("a", 3, 3)),
		room(8, dead("d", 1, 1), dead("c", 1, 1), dead("b", 1, 1), dead("a", 1, 1), dead("k", 1, 1), dead("z", 1, 1), dead("y", 1, 1), dead("kk", 1, 1)),
		room(4, dead("d", 1, 1), dead("c", 1, 1), dead("b", 1, 1), dead("k", 1, 1)),
	)
}

// wrongArenas may not be; in many there is a slot that could be found.
func wrongArenas() []api.Arena {
	all := list(reg("k", 4, 1, "a"), count("k", full(1), full(2)), flags("k", 9))
	var out []api.Arena
	for _, cap := range []int{0, -1, 1, 2, 9, 1 << 32, 1<<32 + 3, math.MinInt, math.MaxInt} {
		out = append(out, room(cap, twins(all)...))
	}
	for _, index := range [][]int{nil, {}, {0, 1}, {0, 1, 1}, {0, 1, 3}, {-1, 1, 2}, {2, 1, 0}, {0, 2, 1}, {0, 1, 2, 2}, {0, 1, math.MaxInt}, {0, 1, math.MinInt}, {0, 1, 1<<32 + 2}} {
		out = append(out, api.Arena{Cap: 3, Slots: twins(all), Index: index}, api.Arena{Cap: 8, Slots: twins(all), Index: index})
	}
	for _, e := range list(
		api.Entry{}, api.Entry{Key: "k"}, reg("", 1, 1, ""), reg("123456789", 1, 1, ""), reg("k", -1, 0, ""), reg("k", math.MaxInt32+1, 0, ""), reg("k", math.MaxInt, 0, ""), reg("k", 1, 8, ""), reg("k", 1, -1, ""), reg("k", 1, 1, "123456789"),
		api.Entry{Key: "k", Val: api.Value{Kind: 1, Dead: true, Text: "a"}}, api.Entry{Key: "k", Val: api.Value{Kind: 1, Flags: 1}}, api.Entry{Key: "k", Val: api.Value{Kind: 2}}, count("k", full(1)[:7], full(1)), count("k", full(1), full(1)[:1]), count("k", full(1), nil), count("k", nil, full(1)),
		count("k", full(-1), full(0)), count("k", full(0), full(65536)), count("k", append(full(0), 0), full(0)), api.Entry{Key: "k", Val: api.Value{Kind: 3, Dead: true}}, api.Entry{Key: "k", Val: api.Value{Kind: 3, Time: 1}}, api.Entry{Key: "k", Val: api.Value{Kind: 4}},
	) {
		out = append(out, room(1, e), room(4, e), room(4, flags("a", 1), e, dead("a", 1, 1)))
	}
	twice := list(reg("k", 1, 1, "a"), reg("k", 2, 1, "b"))
	return append(out, api.Arena{}, api.Arena{Cap: 8, Index: []int{0}}, api.Arena{Cap: 8, Slots: twice, Index: []int{0, 1}}, api.Arena{Cap: 2, Slots: twice, Index: []int{1, 0}}, api.Arena{Cap: 8, Slots: make([]api.Entry, 1000), Index: make([]int, 1000)})
}

// Every update and all that is read, of all arenas, at all edges.
func TestAllCalls(t *testing.T) {
	for _, a := range slices.Concat(arenas(), wrongArenas()) {
		was := twinOf(a)
		for _, key := range keys() {
			holdReads(t, a, key)
			for _, f := range manyFlags() {
				holdSet(t, a, key, f)
			}
			for _, node := range nodes() {
				holdDelete(t, a, node, key)
				for _, text := range texts() {
					holdPut(t, a, node, key, text)
				}
				for _, n := range numbers() {
					holdAdd(t, a, node, key, n)
				}
			}
		}
		if !reflect.DeepEqual(twinOf(a), was) {
			t.Fatalf("%v is %v now", was, a)
		}
	}
}

func TestPut(t *testing.T) {
	four := room(1, reg("k", 4, 7, "old"))
	for _, x := range []struct {
		a         api.Arena
		node      int
		key, text string
		want      told
	}{
		{four, 0, "k", "new", told{reg("k", 5, 0, "new"), api.OK}}, // the document's example
		{four, 7, "k", "old", told{reg("k", 5, 7, "old"), api.OK}},
		{four, 1, "k", "", told{reg("k", 5, 1, ""), api.OK}},
		{four, 1, "z", "new", told{Errno: api.ErrFull}},
		{room(1), 7, "k", "12345678", told{reg("k", 1, 7, "12345678"), api.OK}},
		{room(1), 0, "12345678", "", told{reg("12345678", 1, 0, ""), api.OK}},
		{room(1), 0, "k", "123456789", told{Errno: api.ErrLong}},
		{room(1), -1, "k", "", told{Errno: api.ErrNode}},
		{room(1), 8, "k", "", told{Errno: api.ErrNode}},
		{room(1), 0, "", "", told{Errno: api.ErrLong}},
		{room(1), 0, "123456789", "", told{Errno: api.ErrLong}},
		{room(1, reg("k", 0, 0, "")), 0, "k", "a", told{reg("k", 1, 0, "a"), api.OK}},
		{room(1, dead("k", 4, 7)), 0, "k", "a", told{reg("k", 5, 0, "a"), api.OK}},
		{room(1, reg("k", 2147483646, 7, "a")), 0, "k", "a", told{reg("k", 2147483647, 0, "a"), api.OK}},
		{room(1, reg("k", 2147483647, 0, "")), 7, "k", "a", told{Errno: api.ErrOverflow}},
		{room(1, dead("k", 2147483646, 0)), 7, "k", "a", told{reg("k", 2147483647, 7, "a"), api.OK}},
		{room(1, dead("k", 2147483647, 0)), 7, "k", "a", told{Errno: api.ErrOverflow}},
		{room(2, flags("k", 1), count("k", full(1), full(1))), 0, "k", "a", told{Errno: api.ErrFull}},
		{room(3, flags("k", 1), count("k", full(1), full(1))), 0, "k", "a", told{reg("k", 1, 0, "a"), api.OK}},
		{room(2, reg("j", 9, 1, ""), dead("l", 8, 1)), 0, "k", "a", told{Errno: api.ErrFull}},
		{room(3, reg("j", 9, 1, ""), dead("l", 8, 1)), 0, "k", "a", told{reg("k", 1, 0, "a"), api.OK}},
		{room(3, reg("kk", 9, 1, ""), dead("k\x00", 8, 1)), 0, "k", "a", told{reg("k", 1, 0, "a"), api.OK}},
		{api.Arena{}, 0, "k", "a", told{Errno: api.ErrForm}},
	} {
		if got := tell(delta.Put(x.a, x.node, x.key, x.text)); !got.alike(x.want) {
			t.Errorf("Put(%v, %d, %q, %q): %v, not %v", x.a, x.node, x.key, x.text, got, x.want)
		}
	}
}

func TestDelete(t *testing.T) {
	four := room(1, reg("k", 4, 7, "old"))
	for _, x := range []struct {
		a    api.Arena
		node int
		key  string
		want told
	}{
		{four, 0, "k", told{dead("k", 5, 0), api.OK}},
		{four, 7, "k", told{dead("k", 5, 7), api.OK}},
		{four, 8, "k", told{Errno: api.ErrNode}},
		{four, -1, "k", told{Errno: api.ErrNode}},
		{four, 0, "", told{Errno: api.ErrLong}},
		{four, 0, "123456789", told{Errno: api.ErrLong}},
		{four, 0, "z", told{Errno: api.ErrNone}},
		{room(1), 0, "k", told{Errno: api.ErrNone}},
		{room(2, flags("k", 1), count("k", full(1), full(1))), 0, "k", told{Errno: api.ErrNone}},
		{room(1, reg("12345678", 0, 0, "")), 0, "12345678", told{dead("12345678", 1, 0), api.OK}},
		{room(1, dead("k", 4, 7)), 0, "k", told{Errno: api.ErrNone}},
		{room(1, reg("k", 2147483646, 7, "a")), 0, "k", told{dead("k", 2147483647, 0), api.OK}},
		{room(1, reg("k", 2147483647, 0, "")), 7, "k", told{Errno: api.ErrOverflow}},
		{room(1, dead("k", 2147483646, 0)), 7, "k", told{Errno: api.ErrNone}},
		{room(1, dead("k", 2147483647, 0)), 7, "k", told{Errno: api.ErrNone}},
		{api.Arena{}, 0, "k", told{Errno: api.ErrForm}},
	} {
		if got := tell(delta.Delete(x.a, x.node, x.key)); !got.alike(x.want) {
			t.Errorf("Delete(%v, %d, %q): %v, not %v", x.a, x.node, x.key, got, x.want)
		}
	}
}

func TestAdd(t *testing.T) {
	plus, minus := []int{10, 0, 65535, 65534, 1, 2, 3, 65435}, []int{65435, 3, 2, 1, 65534, 65535, 0, 10}
	a := room(1, count("k", plus, minus))
	up := func(node, n int) told { return told{count("k", one(node, n), full(0)), api.OK} }
	down := func(node, n int) told { return told{count("k", full(0), one(node, n)), api.OK} }
	for _, x := range []struct {
		a    api.Arena
		node int
		key  string
		n    int
		want told
	}{
		{a, 0, "k", 7, up(0, 17)}, {a, 0, "k", -7, down(0, 65442)}, {a, 0, "k", 65525, up(0, 65535)}, {a, 0, "k", 65526, told{Errno: api.ErrOverflow}}, {a, 0, "k", -100, down(0, 65535)}, {a, 0, "k", -101, told{Errno: api.ErrOverflow}},
		{a, 1, "k", 65535, up(1, 65535)}, {a, 1, "k", -65532, down(1, 65535)}, {a, 1, "k", -65533, told{Errno: api.ErrOverflow}},
		{a, 2, "k", 1, told{Errno: api.ErrOverflow}}, {a, 2, "k", -1, down(2, 3)}, {a, 3, "k", 1, up(3, 65535)}, {a, 3, "k", 2, told{Errno: api.ErrOverflow}},
		{a, 4, "k", -1, down(4, 65535)}, {a, 4, "k", -2, told{Errno: api.ErrOverflow}}, {a, 5, "k", -1, told{Errno: api.ErrOverflow}}, {a, 5, "k", 1, up(5, 3)},
		{a, 6, "k", -65535, down(6, 65535)}, {a, 6, "k", 65535, told{Errno: api.ErrOverflow}}, {a, 7, "k", 100, up(7, 65535)}, {a, 7, "k", 101, told{Errno: api.ErrOverflow}}, {a, 7, "k", -1, down(7, 11)},
		{a, 0, "k", 0, told{Errno: api.ErrArg}}, {a, 0, "k", 65536, told{Errno: api.ErrArg}}, {a, 0, "k", -65536, told{Errno: api.ErrArg}}, {a, 0, "k", math.MinInt, told{Errno: api.ErrArg}}, {a, 0, "k", math.MaxInt, told{Errno: api.ErrArg}},
		{a, 8, "k", 1, told{Errno: api.ErrNode}}, {a, -1, "k", 1, told{Errno: api.ErrNode}}, {a, 0, "", 1, told{Errno: api.ErrLong}}, {a, 0, "123456789", 1, told{Errno: api.ErrLong}},
		{a, 0, "z", 1, told{Errno: api.ErrFull}}, {room(1), 0, "k", 1, up(0, 1)}, {room(1), 7, "k", -1, down(7, 1)}, {room(1), 3, "k", 65535, up(3, 65535)}, {room(1), 3, "k", -65535, down(3, 65535)},
		{room(1), 0, "12345678", 1, told{count("12345678", one(0, 1), full(0)), api.OK}},
		{room(2, flags("k", 1), reg("k", 1, 1, "1")), 0, "k", 1, told{Errno: api.ErrFull}}, {room(3, flags("k", 1), reg("k", 1, 1, "1")), 0, "k", 1, up(0, 1)},
		{api.Arena{}, 0, "k", 1, told{Errno: api.ErrForm}},
	} {
		if got := tell(delta.Add(x.a, x.node, x.key, x.n)); !got.alike(x.want) {
			t.Errorf("Add(%v, %d, %q, %d): %v, not %v", x.a, x.node, x.key, x.n, got, x.want)
		}
	}
}

func TestSet(t *testing.T) {
	six := room(1, flags("k", 6))
	for _, x := range []struct {
		a     api.Arena
		key   string
		flags uint64
		want  told
	}{
		{six, "k", 8, told{flags("k", 8), api.OK}},
		{six, "k", 6, told{flags("k", 6), api.OK}},
		{six, "k", 0, told{flags("k", 0), api.OK}},
		{six, "k", math.MaxUint64, told{flags("k", math.MaxUint64), api.OK}},
		{six, "z", 8, told{Errno: api.ErrFull}},
		{six, "", 8, told{Errno: api.ErrLong}},
		{six, "123456789", 8, told{Errno: api.ErrLong}},
		{room(1), "k", 1 << 63, told{flags("k", 1<<63), api.OK}},
		{room(1), "12345678", 0, told{flags("12345678", 0), api.OK}},
		{room(2, reg("k", 1, 1, "1"), count("k", full(1), full(1))), "k", 1, told{Errno: api.ErrFull}},
		{room(3, reg("k", 1, 1, "1"), count("k", full(1), full(1))), "k", 1, told{flags("k", 1), api.OK}},
		{api.Arena{}, "k", 1, told{Errno: api.ErrForm}},
	} {
		if got := tell(delta.Set(x.a, x.key, x.flags)); !got.alike(x.want) {
			t.Errorf("Set(%v, %q, %x): %v, not %v", x.a, x.key, x.flags, got, x.want)
		}
	}
}

// R1: of several faults at once the one that the document names first is told; each line has one fault less than the one above it.
func TestOrderOfErrors(t *testing.T) {
	last := room(2, reg("k", 2147483647, 1, "a"), count("k", full(65535), full(65535)))
	bad := api.Arena{Cap: 9, Slots: last.Slots, Index: last.Index}
	gone := room(1, dead("k", 2147483647, 1))
	long, text := "123456789", "123456789"
	for i, x := range []struct {
		got  told
		want api.Errno
	}{
		{tell(delta.Put(bad, 8, long, text)), api.ErrForm},
		{tell(delta.Put(last, 8, long, text)), api.ErrNode},
		{tell(delta.Put(last, -1, "", text)), api.ErrNode},
		{tell(delta.Put(last, 7, long, text)), api.ErrLong},
		{tell(delta.Put(last, 7, "z", text)), api.ErrLong},
		{tell(delta.Put(last, 7, "k", text)), api.ErrLong},
		{tell(delta.Put(last, 7, "z", "")), api.ErrFull},
		{tell(delta.Put(last, 7, "k", "")), api.ErrOverflow},
		{tell(delta.Delete(bad, 8, long)), api.ErrForm},
		{tell(delta.Delete(last, 8, long)), api.ErrNode},
		{tell(delta.Delete(last, 8, "z")), api.ErrNode},
		{tell(delta.Delete(last, 7, "")), api.ErrLong},
		{tell(delta.Delete(last, 7, "z")), api.ErrNone},
		{tell(delta.Delete(gone, 7, "k")), api.ErrNone},
		{tell(delta.Delete(last, 7, "k")), api.ErrOverflow},
		{tell(delta.Add(bad, 8, long, 0)), api.ErrForm},
		{tell(delta.Add(last, 8, long, 0)), api.ErrNode},
		{tell(delta.Add(last, math.MinInt, "", math.MinInt)), api.ErrNode},
		{tell(delta.Add(last, 7, long, 0)), api.ErrLong},
		{tell(delta.Add(last, 7, "z", 0)), api.ErrArg},
		{tell(delta.Add(last, 7, "z", -65536)), api.ErrArg},
		{tell(delta.Add(last, 7, "k", 65536)), api.ErrArg},
		{tell(delta.Add(last, 7, "k", math.MinInt)), api.ErrArg},
		{tell(delta.Add(last, 7, "z", 65535)), api.ErrFull},
		{tell(delta.Add(last, 7, "k", 1)), api.ErrOverflow},
		{tell(delta.Add(last, 7, "k", -1)), api.ErrOverflow},
		{tell(delta.Set(bad, long, 1)), api.ErrForm},
		{tell(delta.Set(last, long, 1)), api.ErrLong},
		{tell(delta.Set(last, "", 1)), api.ErrLong},
		{tell(delta.Set(last, "k", 1)), api.ErrFull},
	} {
		if x.got.Errno != x.want || !alike(x.got.Entry, api.Entry{}) {
			t.Errorf("line %d: %v, not %v", i, x.got, x.want)
		}
	}
}

// An arena that may not be is told ahead of all other faults, and nothing is read of it.
func TestArenasThatMayNotBe(t *testing.T) {
	for _, a := range wrongArenas() {
		for _, key := range keys() {
			all := []told{tell(delta.Set(a, key, 1))}
			for _, node := range nodes() {
				all = append(all, tell(delta.Put(a, node, key, "")), tell(delta.Put(a, node, key, "123456789")), tell(delta.Delete(a, node, key)), tell(delta.Add(a, node, key, 1)), tell(delta.Add(a, node, key, 0)))
			}
			for _, got := range all {
				if got.Errno != api.ErrForm || !alike(got.Entry, api.Entry{}) {
					t.Fatalf("%v, %q: %v, not ErrForm", a, key, got)
				}
			}
			text, isText := delta.Text(a, key)
			sum, isSum := delta.Sum(a, key)
			f, isFlags := delta.Flags(a, key)
			if text != "" || isText || sum != 0 || isSum || f != 0 || isFlags || len(delta.Scan(a)) != 0 {
				t.Fatalf("%v, %q: something is read", a, key)
			}
		}
	}
}

// One key is a register's, a counter's and flags', and none has to do with the others.
func TestOneKey(t *testing.T) {
	a := room(3)
	do := func(e api.Entry, no api.Errno) {
		t.Helper()
		if no != api.OK {
			t.Fatal(no)
		}
		a = joined(t, a, e)
	}
	reads := func(text string, isText bool, sum int, isSum bool, f uint64, isFlags bool) {
		t.Helper()
		s, is := delta.Text(a, "k")
		n, as := delta.Sum(a, "k")
		g, so := delta.Flags(a, "k")
		if s != text || is != isText || n != sum || as != isSum || g != f || so != isFlags {
			t.Fatalf("%v: %q %v, %d %v, %x %v", a, s, is, n, as, g, so)
		}
	}
	reads("", false, 0, false, 0, false)
	do(delta.Set(a, "k", 0))
	reads("", false, 0, false, 0, true)
	do(delta.Put(a, 7, "k", ""))
	reads("", true, 0, false, 0, true)
	do(delta.Add(a, 0, "k", -5))
	reads("", true, -5, true, 0, true)
	do(delta.Add(a, 1, "k", 5))
	reads("", true, 0, true, 0, true)
	do(delta.Put(a, 0, "k", "text"))
	reads("text", true, 0, true, 0, true)
	do(delta.Set(a, "k", 5))
	do(delta.Set(a, "k", 3))
	reads("text", true, 0, true, 7, true)
	do(delta.Delete(a, 3, "k"))
	reads("", false, 0, true, 7, true)
	if _, no := delta.Delete(a, 3, "k"); no != api.ErrNone {
		t.Errorf("Delete of what is dead: %v", no)
	}
	do(delta.Put(a, 0, "k", "again"))
	reads("again", true, 0, true, 7, true)
	for node := range 8 {
		do(delta.Add(a, node, "k", 60000))
	}
	reads("again", true, 480000, true, 7, true)
	for node := range 8 {
		do(delta.Add(a, node, "k", -60001))
	}
	reads("again", true, -8, true, 7, true)
	want := list(reg("k", 4, 0, "again"), count("k", []int{60000, 60005, 60000, 60000, 60000, 60000, 60000, 60000}, []int{60006, 60001, 60001, 60001, 60001, 60001, 60001, 60001}), flags("k", 7))
	if got := delta.Scan(a); !alikeLists(got, want) {
		t.Errorf("Scan: %v, not %v", got, want)
	}
}

func TestScan(t *testing.T) {
	a := room(8, flags("z", 1), flags("k", 0), dead("z", 1, 1), reg("k", 1, 1, ""), count("z", full(0), full(0)), dead("k\x00", 2, 0), reg("b", 7, 7, "b"), dead("a", 3, 3))
	want := list(reg("b", 7, 7, "b"), reg("k", 1, 1, ""), count("z", full(0), full(0)), flags("k", 0), flags("z", 1))
	if got := delta.Scan(a); !alikeLists(got, want) {
		t.Errorf("Scan: %v, not %v", got, want)
	}
	if got := delta.Scan(room(2, dead("k", 1, 1), dead("a", 2, 2))); len(got) != 0 {
		t.Errorf("Scan of what is dead: %v", got)
	}
	if got := delta.Scan(room(8)); len(got) != 0 {
		t.Errorf("Scan of nothing: %v", got)
	}
}

// spoil writes over all that can be reached of entries, behind their ends, too.
func spoil(l []api.Entry) {
	l = l[:cap(l)]
	for i := range l {
		for _, row := range [][]int{l[i].Val.Plus, l[i].Val.Minus} {
			row = row[:cap(row)]
			for k := range row {
				row[k] = -77
			}
		}
		l[i] = api.Entry{Key: "spoilt"}
	}
}

// answers are all entries that are told of an arena.
func answers(a api.Arena) [][]api.Entry {
	out := [][]api.Entry{delta.Scan(a)}
	for _, key := range []string{"k", "12345678", "", "new"} {
		for _, node := range []int{0, 7, 8} {
			l := list(tell(delta.Put(a, node, key, "a")).Entry, tell(delta.Delete(a, node, key)).Entry, tell(delta.Set(a, key, 1)).Entry)
			for _, n := range []int{1, -1, 100, -100} {
				l = append(l, tell(delta.Add(a, node, key, n)).Entry)
			}
			out = append(out, l)
		}
	}
	return out
}

// longer has room behind the ends of its lists, where others may write.
func longer(a api.Arena) api.Arena {
	slots, index := make([]api.Entry, len(a.Slots)+4), make([]int, len(a.Index)+4)
	copy(slots, twins(a.Slots))
	copy(index, a.Index)
	for i := range slots {
		rows := make([]int, 40)
		copy(rows, slots[i].Val.Plus)
		copy(rows[20:], slots[i].Val.Minus)
		slots[i].Val.Plus, slots[i].Val.Minus = rows[:len(slots[i].Val.Plus)], rows[20:20+len(slots[i].Val.Minus)]
	}
	return api.Arena{Cap: a.Cap, Slots: slots[:len(a.Slots)], Index: index[:len(a.Index)]}
}

// whole is an arena, and all that is behind the ends of its lists.
func whole(a api.Arena) api.Arena {
	out := twinOf(api.Arena{Cap: a.Cap, Slots: a.Slots[:cap(a.Slots)], Index: a.Index[:cap(a.Index)]})
	for i, e := range a.Slots[:cap(a.Slots)] {
		out.Slots[i].Val.Plus = slices.Clone(e.Val.Plus[:cap(e.Val.Plus)])
		out.Slots[i].Val.Minus = slices.Clone(e.Val.Minus[:cap(e.Val.Minus)])
	}
	return out
}

// R3, R4: what was given is as it was, whatever is asked, and whatever is done with what is told; the same call tells the same.
func TestNothingIsShared(t *testing.T) {
	for _, a := range slices.Concat(arenas(), wrongArenas()) {
		if len(a.Slots) > 100 {
			continue
		}
		given := longer(a)
		was := whole(given)
		lists := answers(given)
		var kept [][]api.Entry
		for _, l := range lists {
			kept = append(kept, twins(l))
		}
		for _, l := range lists {
			spoil(l)
		}
		if now := whole(given); !reflect.DeepEqual(now, was) {
			t.Fatalf("%v is %v now", was, now)
		}
		for i, l := range answers(given) {
			if !alikeLists(l, kept[i]) {
				t.Fatalf("%v: %v, then %v", a, kept[i], l)
			}
		}
	}
}

// The lists of one answer share nothing, also where those that were given do, or would have room for each other.
func TestListsOfOneAnswer(t *testing.T) {
	row := full(4)
	of := func(key string) api.Entry {
		return api.Entry{Key: key, Val: api.Value{Kind: 2, Plus: row, Minus: row}}
	}
	a := room(4, of("b"), dead("z", 1, 1), of("a"), of("c"))
	lists := [][]api.Entry{delta.Scan(a), list(tell(delta.Add(a, 0, "b", 1)).Entry), list(tell(delta.Add(a, 0, "b", -1)).Entry)}
	for _, l := range lists {
		for i := range l {
			plus, minus := l[i].Val.Plus, slices.Clone(l[i].Val.Minus)
			for k := range plus {
				plus[k] = -1
			}
			_ = append(plus, -1, -1, -1, -1, -1, -1, -1, -1)
			if !slices.Equal(l[i].Val.Minus, minus) {
				t.Fatalf("entry %d of %v: Plus is Minus", i, l)
			}
			for _, other := range l[i+1:] {
				if !slices.Equal(other.Val.Plus, full(4)) || !slices.Equal(other.Val.Minus, full(4)) {
					t.Fatalf("entry %d of %v is another one", i, l)
				}
			}
		}
	}
	if !slices.Equal(row, full(4)) {
		t.Errorf("what was given is %v now", row)
	}
}

// A node's updates, one behind the other, come to the same wherever they are joined, in whatever order.
func TestDeltasInAnyOrder(t *testing.T) {
	a := room(3)
	var all []api.Entry
	do := func(e api.Entry, no api.Errno) {
		t.Helper()
		if no != api.OK {
			t.Fatal(no)
		}
		a, all = joined(t, a, e), append(all, e)
	}
	for node := range 4 {
		do(delta.Put(a, node, "k", strings.Repeat("x", node)))
		do(delta.Add(a, node, "k", 10+node))
		do(delta.Add(a, node, "k", -node-1))
		do(delta.Set(a, "k", 1<<node))
	}
	do(delta.Delete(a, 2, "k"))
	back := slices.Clone(all)
	slices.Reverse(back)
	for _, l := range [][]api.Entry{all, back, append(slices.Clone(all[5:]), all[:5]...), append(slices.Clone(back), all...)} {
		b, _, wrong := arena.Merge(room(3), l)
		if wrong != 0 || !arena.Alike(a, b) {
			t.Errorf("%v: %v, not %v", l, b, a)
		}
	}
	if n, is := delta.Sum(a, "k"); n != 46-10 || !is {
		t.Errorf("Sum: %d, %v", n, is)
	}
}

// entryOf makes an entry of three bytes, of few names, and now and then none.
func entryOf(kind, key, val byte) api.Entry {
	name := "abkz"[key%4:key%4+1] + strings.Repeat("\x00", int(key/4%3))
	switch kind % 8 {
	case 0:
		return reg(name, int(val%5), int(val/5%8), "abc"[:val%4])
	case 1:
		return dead(name, math.MaxInt32-int(val%3), int(val/3%8))
	case 2:
		return reg(name, math.MaxInt32-int(val%3), int(val/3%8), "abc"[:val%4])
	case 3, 4:
		return count(name, one(int(val%8), int(val)*257), full(65535-int(kind)*int(val)))
	case 5, 6:
		return flags(name, uint64(val)<<(kind/4))
	}
	return api.Entry{Key: name[:int(val)%2], Val: api.Value{Kind: int(kind/8) - 3, Flags: uint64(val % 2), Time: int(val) - 200}}
}

func FuzzAllCalls(f *testing.F) {
	f.Add(8, []byte("abcabdabeabf"), []byte{0, 1, 2}, "k", "text", 3, 1, uint64(1))
	f.Add(1, []byte{4, 0, 1, 4, 0, 2, 4, 1, 1}, []byte{0}, "a", "", 0, -65535, uint64(0))
	f.Add(4, []byte{0, 2, 7, 2, 2, 7, 4, 2, 7, 255, 1, 0}, []byte{2, 1, 0}, "k\x00", "123456789", -1, 0, uint64(1<<63))
	f.Add(9, []byte{1, 1, 1}, []byte{}, "", "12345678", 8, math.MinInt, uint64(math.MaxUint64))
	f.Fuzz(func(t *testing.T, cap int, bytes, places []byte, key, text string, node, n int, set uint64) {
		var l []api.Entry
		for i := 0; i+2 < len(bytes) && i < 60; i += 3 {
			l = append(l, entryOf(bytes[i], bytes[i+1], bytes[i+2]))
		}
		odd := api.Arena{Cap: cap, Slots: l[:min(len(l), len(places))]}
		for _, p := range places {
			odd.Index = append(odd.Index, int(p)-1)
		}
		fresh, _ := arena.New(1 + cap&7)
		filled, _, _ := arena.Merge(fresh, l)
		for _, a := range []api.Arena{odd, fresh, filled} {
			was := twinOf(a)
			for _, k := range []string{key, "k", "a"} {
				holdReads(t, a, k)
				holdSet(t, a, k, set)
				for _, at := range []int{node, node & 7} {
					holdPut(t, a, at, k, text)
					holdDelete(t, a, at, k)
					holdAdd(t, a, at, k, n)
					holdAdd(t, a, at, k, n%65536)
				}
			}
			if !reflect.DeepEqual(twinOf(a), was) {
				t.Fatalf("%v is %v now", was, a)
			}
		}
	})
}
