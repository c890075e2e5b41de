package digest_test

import (
	"hash/crc32"
	"math"
	"reflect"
	"slices"
	"strings"
	"testing"

	"ouroboros/api"
	"ouroboros/arena"
	"ouroboros/digest"
	"ouroboros/entry"
)

const (
	maxSum = 1<<32 - 1
	// sumOfC is the sum of the flags 1 of c; sameAsC are the flags of a which have that sum, too.
	sumOfC  = 3101983948
	sameAsC = 1109723004
)

func full(n int) []int { return slices.Repeat([]int{n}, 8) }

func reg(key string, time, node int, text string) api.Entry {
	return api.Entry{Key: key, Val: api.Value{Kind: 1, Time: time, Node: node, Text: text}}
}

func dead(key string, time, node int) api.Entry {
	return api.Entry{Key: key, Val: api.Value{Kind: 1, Time: time, Node: node, Dead: true}}
}

func count(key string, plus, minus int) api.Entry {
	return api.Entry{Key: key, Val: api.Value{Kind: 2, Plus: full(plus), Minus: full(minus)}}
}

func flags(key string, f uint64) api.Entry {
	return api.Entry{Key: key, Val: api.Value{Kind: 3, Flags: f}}
}

func list(l ...api.Entry) []api.Entry { return l }

// twin is another one that is alike, shares nothing, and has no list that is nil.
func twin(e api.Entry) api.Entry {
	e.Val.Plus, e.Val.Minus = append([]int{}, e.Val.Plus...), append([]int{}, e.Val.Minus...)
	return e
}

func twins(l []api.Entry) []api.Entry {
	out := make([]api.Entry, len(l))
	for i, e := range l {
		out[i] = twin(e)
	}
	return out
}

func twinOf(a api.Arena) api.Arena {
	return api.Arena{Cap: a.Cap, Slots: twins(a.Slots), Index: append([]int{}, a.Index...)}
}

func alikeLists(a, b []api.Entry) bool { return reflect.DeepEqual(twins(a), twins(b)) }

func isAhead(a, b api.Entry) bool {
	return a.Val.Kind < b.Val.Kind || a.Val.Kind == b.Val.Kind && strings.Compare(a.Key, b.Key) < 0
}

// room is an arena of slots that are there already, none of a name that another one has.
func room(cap int, slots ...api.Entry) api.Arena {
	index := make([]int, len(slots))
	for place, e := range slots {
		rank := 0
		for _, f := range slots {
			if isAhead(f, e) {
				rank++
			}
		}
		index[rank] = place
	}
	return api.Arena{Cap: cap, Slots: slots, Index: index}
}

// bucketOf, sumOf, sumsOf, differOf, inOf, putOf and getOf are what the document says, by the library's sums.
func bucketOf(kind int, key string) int {
	first := kind % 256
	if first < 0 {
		first += 256
	}
	return int(crc32.ChecksumIEEE(append([]byte{byte(first)}, key...)) % 4)
}

func sumOf(t *testing.T, e api.Entry) int {
	t.Helper()
	s, no := entry.Put(e)
	if no != api.OK {
		t.Fatalf("%v has no bytes: %v", e, no)
	}
	return int(crc32.ChecksumIEEE([]byte(s)))
}

func sumsOf(t *testing.T, a api.Arena) [4]int {
	t.Helper()
	var out [4]int
	if arena.Check(a) != api.OK {
		return out
	}
	for _, e := range a.Slots {
		out[bucketOf(e.Val.Kind, e.Key)] ^= sumOf(t, e)
	}
	return out
}

func differOf(a, b [4]int) int {
	mask := 0
	for i, weight := range []int{1, 2, 4, 8} {
		if a[i] < b[i] || a[i] > b[i] {
			mask += weight
		}
	}
	return mask
}

func inOf(a api.Arena, mask, most int) []api.Entry {
	if arena.Check(a) != api.OK || mask < 0 || mask > 15 {
		return nil
	}
	var out []api.Entry
	for _, e := range a.Slots {
		if mask>>bucketOf(e.Val.Kind, e.Key)%2 == 1 {
			out = append(out, e)
		}
	}
	return out[:max(0, min(most, len(out)))]
}

func putOf(l [4]int) (string, api.Errno) {
	var out []byte
	for _, n := range l {
		if n < 0 || n > 4294967295 {
			return "", api.ErrArg
		}
		out = append(out, byte(n%256), byte(n/256%256), byte(n/65536%256), byte(n/16777216))
	}
	return string(out), api.OK
}

func getOf(s string) ([4]int, api.Errno) {
	var out [4]int
	if len(s) != 16 {
		return out, api.ErrForm
	}
	for i := range 16 {
		out[i/4] += int(s[i]) * []int{1, 256, 65536, 16777216}[i%4]
	}
	return out, api.OK
}

func kinds() []int {
	return []int{-1, 0, 1, 2, 3, 4, 127, 128, 255, 256, 257, 258, 259, 511, 512, -2, -253, -254, -255, -256, -257, -512, 1 << 31, 1<<32 - 1, 1 << 32, 1<<32 + 3, -1 << 32, math.MinInt, math.MinInt + 1, math.MaxInt, math.MaxInt - 1}
}

// keys are also those that no entry may have.
func keys() []string {
	out := []string{"", "a", "k", "12345678", "123456789", "\x00", "\x00\x00\x00\x00\x00\x00\x00\x00", "\xff", "k\x00", "ü", "öäüß"}
	for _, n := range []int{16, 255, 256, 1022, 1023, 1024, 1025, 4096, 100000} {
		out = append(out, strings.Repeat("k", n), strings.Repeat("\x00", n), strings.Repeat("abc\xff", n)[:n])
	}
	return out
}

// noughts are entries whose own sums are nought: the flags are chosen so.
func noughts() []api.Entry {
	return list(flags("a", 840886364), flags("k", 2749297812), flags("b", 3163680703), flags("z", 332383521))
}

// pool are entries of many names, so that each bucket has some of each kind.
func pool() []api.Entry {
	var out []api.Entry
	for i := range 12 {
		key := string(rune('a' + i))
		out = append(out, flags(key, uint64(i)<<i), reg(key, i, i%8, "12345678"[:i%9]), count(key, i, 65535-i))
	}
	return append(out, dead("x", 1, 1), dead("y", math.MaxInt32, 7), reg("12345678", 0, 0, ""), reg("\x00", math.MaxInt32, 7, "12345678"), count("12345678", 0, 0), count("\xff\xff", 65535, 65535), flags("k\x00", math.MaxUint64), flags("12345678", 0), flags("zz", 1<<63))
}

// ofBucket are the first n entries of the pool that are in that bucket.
func ofBucket(t *testing.T, bucket, n int) []api.Entry {
	t.Helper()
	var out []api.Entry
	for _, e := range pool() {
		if bucketOf(e.Val.Kind, e.Key) == bucket && len(out) < n {
			out = append(out, e)
		}
	}
	if len(out) != n {
		t.Fatalf("bucket %d has no %d entries", bucket, n)
	}
	return out
}

// arenas may be: without entries, with all slots in one bucket, with slots in each, and full ones.
func arenas(t *testing.T) []api.Arena {
	t.Helper()
	out := []api.Arena{room(1), room(8), {Cap: 3, Slots: []api.Entry{}, Index: []int{}}}
	var each, pairs []api.Entry
	for bucket := range 4 {
		all := ofBucket(t, bucket, 8)
		for _, n := range []int{1, 2, 3, 8} {
			out = append(out, room(n, all[:n]...), room(8, all[:n]...))
		}
		each = append(each, all[0])
		pairs = append(pairs, all[5], all[2])
		out = append(out, room(5, slices.Concat(all[3:5], ofBucket(t, (bucket+1)%4, 2))...))
	}
	out = append(out, room(4, each...), room(8, each...), room(8, pairs...), room(8, pairs[1:]...))
	for i, e := range pool() {
		out = append(out, room(1, e), room(3, e, pool()[(i+1)%len(pool())]))
	}
	for _, e := range noughts() {
		out = append(out, room(1, e), room(2, e, reg("q", 1, 1, "q")))
	}
	return append(out, room(4, noughts()...), cancelled(), room(3, flags("k", 9), count("k", 1, 2), reg("k", 4, 1, "a")), room(3, reg("k", 4, 1, "a"), count("k", 1, 2), flags("k", 9)))
}

// cancelled has two slots of one bucket, of one sum, which together come to nought.
func cancelled() api.Arena { return room(2, flags("c", 1), flags("a", sameAsC)) }

// wrongArenas may not be, though what stands in them could be summed.
func wrongArenas() []api.Arena {
	all := list(flags("k", 9), count("k", 1, 2), reg("k", 4, 1, "a"))
	var out []api.Arena
	for _, cap := range []int{0, -1, 1, 2, 9, 1 << 32, 1<<32 + 3, math.MinInt, math.MaxInt} {
		out = append(out, room(cap, twins(all)...))
	}
	for _, index := range [][]int{nil, {}, {2, 1}, {2, 1, 1}, {2, 1, 3}, {2, 1, -1}, {0, 1, 2}, {2, 1, 0, 0}, {2, 1, math.MaxInt}, {math.MinInt, 1, 0}} {
		out = append(out, api.Arena{Cap: 3, Slots: twins(all), Index: index}, api.Arena{Cap: 8, Slots: twins(all), Index: index})
	}
	for _, e := range list(
		api.Entry{}, api.Entry{Key: "k"}, flags("", 1), flags("123456789", 1), reg("k", -1, 0, ""), reg("k", math.MaxInt, 0, ""), reg("k", 1, 8, ""), reg("k", 1, 1, "123456789"),
		api.Entry{Key: "k", Val: api.Value{Kind: 1, Dead: true, Text: "a"}}, api.Entry{Key: "k", Val: api.Value{Kind: 2}}, count("k", -1, 0), count("k", 0, 65536), api.Entry{Key: "k", Val: api.Value{Kind: 3, Time: 1}}, api.Entry{Key: "k", Val: api.Value{Kind: 4}}, api.Entry{Key: "k", Val: api.Value{Kind: 259}},
	) {
		out = append(out, room(1, e), room(4, e), room(4, flags("a", 1), e, dead("a", 1, 1)))
	}
	twice := list(reg("k", 1, 1, "a"), reg("k", 2, 1, "b"))
	return append(out, api.Arena{}, api.Arena{Cap: 8, Index: []int{0}}, api.Arena{Cap: 8, Slots: twice, Index: []int{0, 1}}, api.Arena{Cap: 8, Slots: make([]api.Entry, 1000), Index: make([]int, 1000)})
}

func masks() []int {
	out := []int{-1, 16, 17, 31, -16, -15, 255, 256, 1 << 32, 1<<32 + 15, math.MinInt, math.MinInt + 15, math.MaxInt}
	for mask := range 16 {
		out = append(out, mask)
	}
	return out
}

func mosts() []int {
	return []int{-1, 0, 1, 2, 3, 4, 7, 8, 9, 100, 1 << 32, -1 << 32, math.MinInt, math.MaxInt}
}

// sums are those that differ from each other at no place, at one, at several, and at all.
func sums() [][4]int {
	out := [][4]int{{}, {1, 2, 3, 4}, {4, 3, 2, 1}, {5, 5, 5, 5}, {maxSum, maxSum, maxSum, maxSum}, {0, 1, maxSum, 258}, {0, 2, maxSum, 0}}
	for i := range 4 {
		for _, n := range []int{-1, 1, 9, 256, 1 << 24, 1 << 31, maxSum, 1 << 32, 1<<32 + 1, math.MinInt, math.MaxInt} {
			var one [4]int
			other := [4]int{1, 2, 3, 4}
			one[i], other[i] = n, n
			out = append(out, one, other)
		}
	}
	return out
}

func texts() []string {
	out := []string{"\x00\x01\x02\x03\x04\x05\x06\x07\x08\x09\x0a\x0b\x0c\x0d\x0e\x0f", "ÿööäüß\x80\x7f\x00\x01"}
	for n := range 40 {
		out = append(out, strings.Repeat("\x00", n), strings.Repeat("\xff", n), strings.Repeat("a\x00\x80", n)[:n])
	}
	return append(out, strings.Repeat("x", 160), strings.Repeat("x", 100000))
}

// holdArena holds Sums and In of one arena against the document's words.
func holdArena(t *testing.T, a api.Arena) {
	t.Helper()
	was := twinOf(a)
	if got, want := digest.Sums(a), sumsOf(t, a); got != want {
		t.Fatalf("Sums(%v): %v, not %v", a, got, want)
	}
	for _, mask := range masks() {
		for _, most := range mosts() {
			holdIn(t, a, mask, most)
		}
	}
	if !reflect.DeepEqual(twinOf(a), was) {
		t.Fatalf("%v is %v now", was, a)
	}
}

func holdIn(t *testing.T, a api.Arena, mask, most int) {
	t.Helper()
	if got, want := digest.In(a, mask, most), inOf(a, mask, most); !alikeLists(got, want) {
		t.Fatalf("In(%v, %d, %d): %v, not %v", a, mask, most, got, want)
	}
}

// holdJoin holds the sums of an arena that has an entry joined against those that it had.
func holdJoin(t *testing.T, a api.Arena, e api.Entry) {
	t.Helper()
	next, changed, no := arena.Join(a, e)
	before, after := digest.Sums(a), digest.Sums(next)
	mask := digest.Differ(before, after)
	bucket := digest.Bucket(e.Val.Kind, e.Key)
	isNew := arena.Find(a, e.Val.Kind, e.Key) < 0
	switch {
	case no != api.OK || !changed:
		if mask != 0 {
			t.Fatalf("%v, %v joined, is %v: %v, then %v", a, e, next, before, after)
		}
	case isNew:
		want := before
		want[bucket] ^= sumOf(t, e)
		if after != want || mask&^(1<<bucket) != 0 || (mask != 0) != (sumOf(t, e) != 0) {
			t.Fatalf("%v, and %v, which is new: %v, then %v, not %v", a, e, before, after, want)
		}
	case mask&^(1<<bucket) != 0:
		t.Fatalf("%v, %v joined: %v, then %v", a, e, before, after)
	}
}

func holdBucket(t *testing.T, kind int, key string) {
	t.Helper()
	if got := digest.Bucket(kind, key); got != bucketOf(kind, key) {
		t.Fatalf("Bucket(%d, %d bytes): %d, not %d", kind, len(key), got, bucketOf(kind, key))
	}
}

func holdDiffer(t *testing.T, a, b [4]int) {
	t.Helper()
	wasA, wasB := a, b
	if got := digest.Differ(a, b); got != differOf(a, b) {
		t.Fatalf("Differ(%v, %v): %d, not %d", a, b, got, differOf(a, b))
	}
	if a != wasA || b != wasB {
		t.Fatalf("%v and %v are %v and %v now", wasA, wasB, a, b)
	}
}

// holdPut holds Put against the document's words, and, what is put, against what is got of it.
func holdPut(t *testing.T, l [4]int) {
	t.Helper()
	s, no := digest.Put(l)
	want, wantNo := putOf(l)
	if s != want || no != wantNo {
		t.Fatalf("Put(%v): %q, %v, not %q, %v", l, s, no, want, wantNo)
	}
	if got, e := digest.Get(s); no == api.OK && (got != l || e != api.OK) {
		t.Fatalf("Put(%v) is got as %v, %v", l, got, e)
	}
}

// holdGet holds Get against the document's words, and, what is got, against what is put of it.
func holdGet(t *testing.T, s string) {
	t.Helper()
	l, no := digest.Get(s)
	want, wantNo := getOf(s)
	if l != want || no != wantNo {
		t.Fatalf("Get(%q): %v, %v, not %v, %v", s, l, no, want, wantNo)
	}
	if again, e := digest.Put(l); no == api.OK && (again != s || e != api.OK) {
		t.Fatalf("Get(%q) is put as %q, %v", s, again, e)
	}
}

// Sums and In of all arenas, at all edges.
func TestAllArenas(t *testing.T) {
	for _, a := range slices.Concat(arenas(t), wrongArenas()) {
		holdArena(t, a)
	}
}

func TestBucket(t *testing.T) {
	for _, x := range []struct {
		kind int
		want [7]int
	}{
		{-1, [7]int{0, 3, 1, 3, 1, 1, 0}}, {0, [7]int{1, 1, 3, 0, 3, 2, 2}}, {1, [7]int{3, 0, 2, 3, 2, 1, 3}}, {2, [7]int{1, 3, 1, 2, 1, 0, 0}}, {3, [7]int{3, 2, 0, 1, 0, 3, 1}}, {4, [7]int{0, 1, 3, 0, 3, 2, 2}},
		{255, [7]int{0, 3, 1, 3, 1, 1, 0}}, {256, [7]int{1, 1, 3, 0, 3, 2, 2}}, {257, [7]int{3, 0, 2, 3, 2, 1, 3}}, {-253, [7]int{3, 2, 0, 1, 0, 3, 1}}, {-256, [7]int{1, 1, 3, 0, 3, 2, 2}},
		{math.MinInt, [7]int{1, 1, 3, 0, 3, 2, 2}}, {math.MaxInt, [7]int{0, 3, 1, 3, 1, 1, 0}},
	} {
		for i, key := range []string{"", "a", "k", "12345678", "\x00", "\x00\x00\x00\x00\x00\x00\x00\x00", "\xff"} {
			if got := digest.Bucket(x.kind, key); got != x.want[i] {
				t.Errorf("Bucket(%d, %q): %d, not %d", x.kind, key, got, x.want[i])
			}
		}
	}
}

func TestBucketOfAllKinds(t *testing.T) {
	for _, key := range keys() {
		for _, kind := range kinds() {
			holdBucket(t, kind, key)
		}
	}
	for kind := -300; kind <= 600; kind++ {
		holdBucket(t, kind, "")
		holdBucket(t, kind, "k")
		if digest.Bucket(kind, "k") != digest.Bucket(kind+256, "k") {
			t.Errorf("kind %d is not kind %d", kind, kind+256)
		}
	}
}

func TestSums(t *testing.T) {
	all := list(flags("k", 5), reg("a", 1, 2, "text"), count("c", 1, 2), dead("e", 7, 0), flags("b", 1<<63))
	for _, x := range []struct {
		a    api.Arena
		want [4]int
	}{
		{room(1), [4]int{}}, // the document's example
		{room(8), [4]int{}},
		{room(1, all[0]), [4]int{3005030169, 0, 0, 0}},
		{room(8, all[0]), [4]int{3005030169, 0, 0, 0}},
		{room(2, all[0], all[1]), [4]int{3005030169 ^ 2751609594, 0, 0, 0}},
		{room(2, all[2], all[3]), [4]int{0, 1398597183, 0, 3338639347}},
		{room(5, all...), [4]int{1548683121, 1398597183, 0, 3338639347}},
		{room(3, all[4], all[0], all[1]), [4]int{1548683121, 0, 0, 0}},
		{room(1, flags("a", 1)), [4]int{0, 0, 1025287683, 0}},
		{room(1, noughts()[0]), [4]int{}},
		{cancelled(), [4]int{}},
		{room(1, flags("c", 1)), [4]int{0, 0, sumOfC, 0}},
		{api.Arena{}, [4]int{}},
		{room(0, all[0]), [4]int{}},
		{room(4, all...), [4]int{}},
		{api.Arena{Cap: 8, Slots: all}, [4]int{}},
	} {
		if got := digest.Sums(x.a); got != x.want {
			t.Errorf("Sums(%v): %v, not %v", x.a, got, x.want)
		}
	}
}

// Nothing is told of an arena that may not be.
func TestArenasThatMayNotBe(t *testing.T) {
	for _, a := range wrongArenas() {
		if arena.Check(a) == api.OK {
			t.Fatalf("%v may be", a)
		}
		if got := digest.Sums(a); got != [4]int{} {
			t.Errorf("Sums(%v): %v", a, got)
		}
		if got := digest.In(a, 15, 8); len(got) != 0 {
			t.Errorf("In(%v): %v", a, got)
		}
	}
}

// orders are lists in some orders: as they are, turned round, and begun at each place.
func orders(l []api.Entry) [][]api.Entry {
	back := slices.Clone(l)
	slices.Reverse(back)
	out := [][]api.Entry{l, back}
	for i := range l {
		out = append(out, slices.Concat(l[i:], l[:i]), slices.Concat(back[i:], back[:i]))
	}
	return out
}

// Arenas that are alike have the same sums, in whatever order their slots came, and whatever room they have.
func TestAlikeArenas(t *testing.T) {
	for _, a := range arenas(t) {
		for _, l := range orders(a.Slots) {
			for _, cap := range []int{a.Cap, 8} {
				b, _, wrong := arena.Merge(room(cap), slices.Concat(l, l))
				if wrong != 0 || !arena.Alike(a, b) {
					t.Fatalf("%v and %v are not alike", a, b)
				}
				if digest.Sums(a) != digest.Sums(b) || digest.Differ(digest.Sums(a), digest.Sums(b)) != 0 {
					t.Fatalf("%v and %v are alike: %v and %v", a, b, digest.Sums(a), digest.Sums(b))
				}
			}
		}
	}
}

// Values that came together in several orders have the same sums, too.
func TestAlikeValues(t *testing.T) {
	steps := list(flags("k", 1), flags("k", 8), reg("k", 1, 1, "a"), reg("k", 2, 0, "b"), dead("k", 2, 0), count("k", 1, 9), count("k", 9, 1), flags("a", 3), flags("k", 6))
	want, _, _ := arena.Merge(room(8), steps)
	for _, l := range orders(steps) {
		got, _, wrong := arena.Merge(room(4), l)
		if wrong != 0 || digest.Sums(got) != digest.Sums(want) {
			t.Errorf("%v: %v, not %v", l, digest.Sums(got), digest.Sums(want))
		}
	}
	if got := digest.Sums(room(4, flags("k", 15), dead("k", 2, 0), count("k", 9, 9), flags("a", 3))); got != digest.Sums(want) {
		t.Errorf("%v, not %v", got, digest.Sums(want))
	}
}

// An entry more changes the sum of its bucket alone; so does one that is changed; what is joined and changes nothing changes none.
func TestOneEntry(t *testing.T) {
	for _, a := range arenas(t) {
		for _, e := range slices.Concat(pool(), noughts(), list(flags("", 1), api.Entry{}, flags("k", 1<<40), reg("k", 9, 9, ""))) {
			holdJoin(t, a, e)
		}
		for _, e := range a.Slots {
			holdJoin(t, a, e)
		}
	}
}

// What is changed in a slot is seen in the sum of its bucket, whichever part of it that is.
func TestChangedEntry(t *testing.T) {
	more := count("a", 3, 3)
	more.Val.Minus[7] = 4
	others := list(flags("b", 1), flags("d", 2), flags("e", 3), flags("c", 4))
	for _, x := range []struct{ was, is api.Entry }{
		{flags("a", 0), flags("a", 1)}, {flags("a", 1), flags("a", 1<<63|1)}, {count("a", 3, 3), more}, {reg("a", 1, 1, "a"), reg("a", 2, 1, "a")}, {reg("a", 1, 1, "a"), reg("a", 1, 2, "a")}, {reg("a", 1, 1, "a"), reg("a", 1, 1, "b")}, {reg("a", 1, 1, ""), dead("a", 1, 1)}, {reg("a", 1, 1, "a"), reg("a", 1, 1, "a\x00")},
	} {
		a := room(8, append(slices.Clone(others), x.was)...)
		b, changed, no := arena.Join(a, x.is)
		if !changed || no != api.OK {
			t.Fatalf("%v does not change %v: %v", x.is, x.was, no)
		}
		if got, want := digest.Differ(digest.Sums(a), digest.Sums(b)), 1<<digest.Bucket(x.was.Val.Kind, "a"); got != want {
			t.Errorf("%v is %v: buckets %d, not %d", x.was, x.is, got, want)
		}
	}
}

// An entry whose own sum is nought changes no sum.
func TestEntriesOfSumNought(t *testing.T) {
	a := room(8, flags("c", 1), reg("k", 1, 1, "k"))
	for _, e := range noughts() {
		b, changed, no := arena.Join(a, e)
		if sumOf(t, e) != 0 || !changed || no != api.OK {
			t.Fatalf("%v, of sum %d, joins %v: %v, %v", e, sumOf(t, e), a, changed, no)
		}
		if digest.Sums(a) != digest.Sums(b) {
			t.Errorf("%v, and %v: %v, then %v", a, e, digest.Sums(a), digest.Sums(b))
		}
		if got := digest.In(b, 1<<digest.Bucket(3, e.Key), 8); !slices.ContainsFunc(got, func(f api.Entry) bool { return entry.Same(e, f) }) {
			t.Errorf("%v is not in its bucket: %v", e, got)
		}
	}
}

func TestDiffer(t *testing.T) {
	one := [4]int{1, 2, 3, 4}
	for _, x := range []struct {
		a, b [4]int
		want int
	}{
		{[4]int{}, [4]int{}, 0}, {one, one, 0}, {one, [4]int{9, 2, 3, 4}, 1}, {one, [4]int{1, 9, 3, 4}, 2}, {one, [4]int{1, 2, 9, 4}, 4}, {one, [4]int{1, 2, 3, 9}, 8},
		{one, [4]int{4, 3, 2, 1}, 15}, {one, [4]int{9, 2, 3, 9}, 9}, {one, [4]int{2, 1, 3, 4}, 3}, {one, [4]int{1, 2, 4, 3}, 12}, {one, [4]int{1, 9, 9, 4}, 6}, {one, [4]int{}, 15},
		{[4]int{0, 1, maxSum, 258}, [4]int{0, 2, maxSum, 0}, 10}, {[4]int{-1, 0, 0, math.MinInt}, [4]int{maxSum, 0, 1 << 32, math.MaxInt}, 13}, {[4]int{1 << 32, 0, 0, 0}, [4]int{}, 1},
	} {
		for _, got := range []int{digest.Differ(x.a, x.b), digest.Differ(x.b, x.a)} {
			if got != x.want {
				t.Errorf("Differ(%v, %v): %d, not %d", x.a, x.b, got, x.want)
			}
		}
	}
	for _, a := range sums() {
		for _, b := range sums() {
			holdDiffer(t, a, b)
		}
	}
}

func TestIn(t *testing.T) {
	// The order in which they came is neither that of their names, nor that of their buckets: 0, 3, 0, 1, 0.
	k, c, a, e, b := flags("k", 5), count("c", 1, 2), reg("a", 1, 2, "text"), dead("e", 7, 0), flags("b", 1<<63)
	five := room(8, k, c, a, e, b)
	for _, x := range []struct {
		a          api.Arena
		mask, most int
		want       []api.Entry
	}{
		{five, 15, 8, list(k, c, a, e, b)}, {five, 15, 5, list(k, c, a, e, b)}, {five, 15, 4, list(k, c, a, e)}, {five, 15, 1, list(k)}, {five, 15, 0, nil}, {five, 15, -1, nil}, {five, 15, 100, list(k, c, a, e, b)},
		{five, 1, 8, list(k, a, b)}, {five, 1, 3, list(k, a, b)}, {five, 1, 2, list(k, a)}, {five, 1, 1, list(k)}, {five, 1, 0, nil}, {five, 1, -1, nil}, {five, 1, math.MinInt, nil}, {five, 1, math.MaxInt, list(k, a, b)},
		{five, 2, 8, list(e)}, {five, 2, 1, list(e)}, {five, 2, 0, nil}, {five, 4, 8, nil}, {five, 8, 8, list(c)}, {five, 10, 8, list(c, e)}, {five, 10, 1, list(c)}, {five, 3, 3, list(k, a, e)}, {five, 12, 8, list(c)},
		{five, 0, 8, nil}, {five, -1, 8, nil}, {five, 16, 8, nil}, {five, 17, 8, nil}, {five, 31, 8, nil}, {five, -15, 8, nil}, {five, 1<<32 + 15, 8, nil}, {five, math.MinInt, 8, nil}, {five, math.MaxInt, 8, nil},
		{room(8), 15, 8, nil}, {api.Arena{}, 15, 8, nil}, {room(4, k, c, a, e, b), 15, 8, nil}, {room(1, b), 1, 1, list(b)}, {room(1, b), 14, 1, nil},
	} {
		if got := digest.In(x.a, x.mask, x.most); !alikeLists(got, x.want) {
			t.Errorf("In(%v, %d, %d): %v, not %v", x.a, x.mask, x.most, got, x.want)
		}
	}
}

// Each slot is in just one bucket.
func TestBuckets(t *testing.T) {
	for _, a := range arenas(t) {
		many := 0
		for bucket := range 4 {
			in := digest.In(a, 1<<bucket, 8)
			many += len(in)
			rest := digest.In(a, 15-1<<bucket, 8)
			if len(in)+len(rest) != len(a.Slots) {
				t.Fatalf("%v: %v in bucket %d, %v in the others", a, in, bucket, rest)
			}
			for _, e := range in {
				if digest.Bucket(e.Val.Kind, e.Key) != bucket {
					t.Fatalf("%v: %v in bucket %d", a, e, bucket)
				}
			}
		}
		if many != len(a.Slots) || !alikeLists(digest.In(a, 15, 8), a.Slots) {
			t.Fatalf("%v: %d in all buckets, %v", a, many, digest.In(a, 15, 8))
		}
	}
}

func TestPut(t *testing.T) {
	for _, x := range []struct {
		l    [4]int
		want string
		no   api.Errno
	}{
		{[4]int{}, strings.Repeat("\x00", 16), api.OK},
		{[4]int{maxSum, maxSum, maxSum, maxSum}, strings.Repeat("\xff", 16), api.OK},
		{[4]int{0, 1, maxSum, 258}, "\x00\x00\x00\x00\x01\x00\x00\x00\xff\xff\xff\xff\x02\x01\x00\x00", api.OK},
		{[4]int{0x04030201, 0x08070605, 0x0c0b0a09, 0x100f0e0d}, "\x01\x02\x03\x04\x05\x06\x07\x08\x09\x0a\x0b\x0c\x0d\x0e\x0f\x10", api.OK},
		{[4]int{-1, 1 << 32, -1, 1 << 32}, "", api.ErrArg},
	} {
		if got, no := digest.Put(x.l); got != x.want || no != x.no {
			t.Errorf("Put(%v): %q, %v, not %q, %v", x.l, got, no, x.want, x.no)
		}
	}
	for _, l := range sums() {
		holdPut(t, l)
	}
}

// At each place a number is refused just if it is out of its range, whatever the others are.
func TestPutAtEachPlace(t *testing.T) {
	for i := range 4 {
		for _, others := range [][4]int{{}, {1, 2, 3, 4}, {maxSum, maxSum, maxSum, maxSum}} {
			for _, n := range []int{0, 1, 255, 256, 1<<31 - 1, 1 << 31, maxSum - 1, maxSum} {
				l := others
				l[i] = n
				if s, no := digest.Put(l); len(s) != 16 || no != api.OK {
					t.Errorf("Put(%v): %q, %v", l, s, no)
				}
				holdPut(t, l)
			}
			for _, n := range []int{-1, -2, -1 << 31, -1 << 32, 1 << 32, 1<<32 + 1, 1 << 40, math.MinInt, math.MaxInt} {
				l := others
				l[i] = n
				if s, no := digest.Put(l); s != "" || no != api.ErrArg {
					t.Errorf("Put(%v): %q, %v", l, s, no)
				}
			}
		}
	}
}

func TestGet(t *testing.T) {
	digits := "\x01\x02\x03\x04\x05\x06\x07\x08\x09\x0a\x0b\x0c\x0d\x0e\x0f\x10"
	for _, x := range []struct {
		s    string
		want [4]int
		no   api.Errno
	}{
		{digits, [4]int{0x04030201, 0x08070605, 0x0c0b0a09, 0x100f0e0d}, api.OK},
		{strings.Repeat("\x00", 16), [4]int{}, api.OK},
		{strings.Repeat("\xff", 16), [4]int{maxSum, maxSum, maxSum, maxSum}, api.OK},
		{"", [4]int{}, api.ErrForm},
		{digits[:15], [4]int{}, api.ErrForm},
		{digits[1:], [4]int{}, api.ErrForm},
		{digits + "\x00", [4]int{}, api.ErrForm},
		{digits + digits, [4]int{}, api.ErrForm},
		{digits[:4], [4]int{}, api.ErrForm},
	} {
		if got, no := digest.Get(x.s); got != x.want || no != x.no {
			t.Errorf("Get(%q): %v, %v, not %v, %v", x.s, got, no, x.want, x.no)
		}
	}
	for _, s := range texts() {
		holdGet(t, s)
	}
	for i := range 16 {
		for b := range 256 {
			turned := []byte(digits)
			turned[i] = byte(b)
			holdGet(t, string(turned))
		}
	}
}

// The sums of an arena always have bytes.
func TestPutOfSums(t *testing.T) {
	for _, a := range slices.Concat(arenas(t), wrongArenas()) {
		holdPut(t, digest.Sums(a))
		if s, no := digest.Put(digest.Sums(a)); len(s) != 16 || no != api.OK {
			t.Errorf("the sums of %v: %q, %v", a, s, no)
		}
	}
}

// spoil writes over all that can be reached of entries, behind their ends, too.
func spoil(l []api.Entry) {
	l = l[:cap(l)]
	for i := range l {
		for _, row := range [][]int{l[i].Val.Plus, l[i].Val.Minus} {
			row = row[:cap(row)]
			for k := range row {
				row[k] = -77
			}
		}
		l[i] = api.Entry{Key: "spoilt"}
	}
}

// longer has room behind the ends of its lists, where others may write.
func longer(a api.Arena) api.Arena {
	slots, index := make([]api.Entry, len(a.Slots)+4), make([]int, len(a.Index)+4)
	copy(slots, twins(a.Slots))
	copy(index, a.Index)
	for i := range slots {
		rows := make([]int, 40)
		copy(rows, slots[i].Val.Plus)
		copy(rows[20:], slots[i].Val.Minus)
		slots[i].Val.Plus, slots[i].Val.Minus = rows[:len(slots[i].Val.Plus)], rows[20:20+len(slots[i].Val.Minus)]
	}
	return api.Arena{Cap: a.Cap, Slots: slots[:len(a.Slots)], Index: index[:len(a.Index)]}
}

// whole is an arena, and all that is behind the ends of its lists.
func whole(a api.Arena) api.Arena {
	out := twinOf(api.Arena{Cap: a.Cap, Slots: a.Slots[:cap(a.Slots)], Index: a.Index[:cap(a.Index)]})
	for i, e := range a.Slots[:cap(a.Slots)] {
		out.Slots[i].Val.Plus = slices.Clone(e.Val.Plus[:cap(e.Val.Plus)])
		out.Slots[i].Val.Minus = slices.Clone(e.Val.Minus[:cap(e.Val.Minus)])
	}
	return out
}

func answers(a api.Arena) [][]api.Entry {
	var out [][]api.Entry
	for mask := range 16 {
		out = append(out, digest.In(a, mask, 8), digest.In(a, mask, 1))
	}
	return out
}

// R3, R4: what was given is as it was, whatever is asked, and whatever is done with what is told; the same call tells the same.
func TestNothingIsShared(t *testing.T) {
	for _, a := range slices.Concat(arenas(t), wrongArenas()) {
		if len(a.Slots) > 100 {
			continue
		}
		given := longer(a)
		was, before := whole(given), digest.Sums(given)
		lists := answers(given)
		var kept [][]api.Entry
		for _, l := range lists {
			kept = append(kept, twins(l))
		}
		for i, l := range lists {
			if !alikeLists(l, kept[i]) {
				t.Fatalf("%v: an answer of In is part of another one", a)
			}
			spoil(l)
		}
		if now := whole(given); !reflect.DeepEqual(now, was) {
			t.Fatalf("%v is %v now", was, now)
		}
		for i, l := range answers(given) {
			if !alikeLists(l, kept[i]) {
				t.Fatalf("%v: %v, then %v", a, kept[i], l)
			}
		}
		if after := digest.Sums(given); after != before {
			t.Fatalf("%v: %v, then %v", a, before, after)
		}
	}
}

// The lists of one answer share nothing, also where those that were given do, or would have room for each other.
func TestListsOfOneAnswer(t *testing.T) {
	row := full(4)
	of := func(key string) api.Entry {
		return api.Entry{Key: key, Val: api.Value{Kind: 2, Plus: row, Minus: row}}
	}
	l := digest.In(room(4, of("b"), of("a"), of("c")), 15, 8)
	if len(l) != 3 {
		t.Fatal(l)
	}
	for i := range l {
		for k, list := range [][]int{l[i].Val.Plus, l[i].Val.Minus} {
			if !slices.Equal(list, full(4)) {
				t.Fatalf("row %d of entry %d of %v was written over", k, i, l)
			}
			for j := range list {
				list[j] = -1
			}
			_ = append(list, -1, -1, -1, -1, -1, -1, -1, -1)
		}
	}
	if !slices.Equal(row, full(4)) {
		t.Errorf("what was given is %v now", row)
	}
}

// entryOf makes an entry of three bytes, of few names, and now and then none.
func entryOf(kind, key, val byte) api.Entry {
	name := "abkz"[key%4:key%4+1] + strings.Repeat("\x00", int(key/4%3))
	switch kind % 8 {
	case 0, 1:
		return reg(name, int(val%5), int(val/5%8), "abc"[:val%4])
	case 2:
		return dead(name, int(val%5), int(val/5%8))
	case 3, 4:
		return count(name, int(val), 65535-int(val))
	case 5, 6:
		return flags(name, uint64(val)<<(kind/4))
	}
	return api.Entry{Key: name[:int(val)%2], Val: api.Value{Kind: int(kind/8) - 3, Flags: uint64(val % 2), Time: int(val) - 200}}
}

func FuzzAllCalls(f *testing.F) {
	f.Add(8, []byte("abcabdabeabf"), []byte{1, 2, 3}, "k", 3, 15, 8, 1, 2, maxSum)
	f.Add(1, []byte{4, 0, 1, 4, 0, 2, 4, 1, 1}, []byte{1}, "", -1, -1, -1, -1, 1<<32, 0)
	f.Add(4, []byte{0, 2, 7, 2, 2, 7, 4, 2, 7, 255, 1, 0}, []byte{3, 2, 1}, "k\x00", 256, 16, 1, math.MinInt, math.MaxInt, 258)
	f.Add(9, []byte{1, 1, 1}, []byte{}, "0123456789abcdef", math.MinInt, math.MaxInt, math.MinInt, 0, 0, 0)
	f.Fuzz(func(t *testing.T, cap int, bytes, places []byte, text string, kind, mask, most, first, second, third int) {
		var l []api.Entry
		for i := 0; i+2 < len(bytes) && i < 60; i += 3 {
			l = append(l, entryOf(bytes[i], bytes[i+1], bytes[i+2]))
		}
		odd := api.Arena{Cap: cap, Slots: l[:min(len(l), len(places))]}
		for _, p := range places {
			odd.Index = append(odd.Index, int(p)-1)
		}
		fresh, _ := arena.New(1 + cap&7)
		filled, _, _ := arena.Merge(fresh, l)
		for _, a := range []api.Arena{odd, fresh, filled} {
			holdArena(t, a)
			holdIn(t, a, mask, most)
			holdDiffer(t, digest.Sums(a), [4]int{first, second, third})
			for _, e := range l[:min(len(l), 4)] {
				holdJoin(t, a, e)
			}
		}
		holdBucket(t, kind, text)
		holdDiffer(t, [4]int{first, second, third, kind}, [4]int{first, third, second, kind})
		for _, sums := range [][4]int{{first, second, third, mask}, {second & maxSum, first & maxSum, mask & maxSum, third & maxSum}} {
			holdPut(t, sums)
		}
		holdGet(t, text)
		holdGet(t, (text + strings.Repeat("\x00", 16))[:16])
	})
}
