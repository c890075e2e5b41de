package value_test

import (
	"math"
	"reflect"
	"slices"
	"strings"
	"testing"

	"ouroboros/api"
	"ouroboros/value"
)

const greatest = 2147483647

func reg(time, node int, text string) api.Value {
	return api.Value{Kind: 1, Time: time, Node: node, Text: text}
}

func dead(time, node int) api.Value {
	return api.Value{Kind: 1, Time: time, Node: node, Dead: true}
}

// noughts are 8 of them, but for the numbers of some places: a place, its number, a place, its number.
func noughts(but ...int) []int {
	out := make([]int, 8)
	for i := 0; i < len(but); i += 2 {
		out[but[i]] = but[i+1]
	}
	return out
}

func full(n int) []int { return slices.Repeat([]int{n}, 8) }

func count(plus, minus []int) api.Value {
	return api.Value{Kind: 2, Plus: plus, Minus: minus}
}

func flags(f uint64) api.Value { return api.Value{Kind: 3, Flags: f} }

// twin is another one that is alike, shares nothing, and has no list that is nil.
func twin(v api.Value) api.Value {
	v.Plus, v.Minus = append([]int{}, v.Plus...), append([]int{}, v.Minus...)
	return v
}

// alike holds two against each other by the library: lists without things are alike.
func alike(a, b api.Value) bool { return reflect.DeepEqual(twin(a), twin(b)) }

// registers are in the order in which each is behind all ahead of it.
func registers() []api.Value {
	return []api.Value{
		reg(0, 0, ""), reg(0, 0, "\x00"), reg(0, 0, "\x00\x00"), reg(0, 0, "z"), reg(0, 0, "\xff"), dead(0, 0),
		reg(0, 1, ""), dead(0, 1), reg(0, 7, ""), reg(0, 7, "zzzzzzzz"), dead(0, 7),
		reg(1, 0, ""), reg(1, 0, "\x00\xff"), reg(1, 0, "\x01"), reg(1, 0, "A"), reg(1, 0, "a"), reg(1, 0, "a\x00"), reg(1, 0, "aa"), reg(1, 0, "aaaaaaaa"), reg(1, 0, "ab"),
		reg(1, 0, "abcdefg"), reg(1, 0, "abcdefgh"), reg(1, 0, "abcdefgi"), reg(1, 0, "b"), reg(1, 0, "\x7f"), reg(1, 0, "\x80"), reg(1, 0, "é"), reg(1, 0, "\xed\xa0\x80"), reg(1, 0, "\xff\xff\xff\xff\xff\xff\xff\xff"), dead(1, 0),
		reg(1, 2, "a"), reg(1, 3, ""), dead(1, 6), reg(1, 7, ""), dead(1, 7),
		reg(2, 0, ""), reg(2, 0, "a"), reg(9, 0, ""), reg(10, 0, ""), reg(65535, 1, ""), reg(65536, 0, ""), reg(greatest-1, 7, "\xff"), dead(greatest-1, 7),
		reg(greatest, 0, ""), dead(greatest, 0), reg(greatest, 7, ""), reg(greatest, 7, "\xff\xff\xff\xff\xff\xff\xff\xff"), dead(greatest, 7),
	}
}

func counters() []api.Value {
	out := []api.Value{
		count(noughts(), noughts()), count(full(65535), full(65535)), count(full(65535), noughts()), count(noughts(), full(65535)), count(full(1), full(2)),
		count([]int{1, 2, 3, 4, 5, 6, 7, 8}, []int{8, 7, 6, 5, 4, 3, 2, 1}), count([]int{8, 7, 6, 5, 4, 3, 2, 1}, []int{1, 2, 3, 4, 5, 6, 7, 8}),
		count(noughts(0, 65534, 7, 1), noughts(3, 65535)),
	}
	for i := range 8 {
		out = append(out, count(noughts(i, 65535), noughts()), count(noughts(), noughts(i, 1)), count(noughts(i, 9, 7-i, 5), noughts(i, 7)))
	}
	return out
}

func allFlags() []api.Value {
	out := []api.Value{flags(0), flags(math.MaxUint64), flags(0x5555555555555555), flags(0xaaaaaaaaaaaaaaaa), flags(1<<32 - 1), flags(math.MaxInt64), flags(5), flags(6)}
	for i := range 64 {
		out = append(out, flags(1<<i))
	}
	return out
}

// goods are values of all kinds, with lists that are nil and ones that are empty.
func goods() []api.Value {
	out := slices.Concat(registers(), counters(), allFlags())
	for _, v := range []api.Value{reg(3, 1, "ring"), dead(3, 1), flags(6)} {
		out = append(out, twin(v))
	}
	return out
}

// wrongs are none, each by one part.
func wrongs() []api.Value {
	out := []api.Value{{}}
	for _, kind := range []int{math.MinInt, -1, 0, 4, 5, 256 + 1, 1<<32 + 1, math.MaxInt} {
		for _, v := range []api.Value{reg(1, 1, "a"), count(noughts(), noughts()), flags(0), flags(7)} {
			v.Kind = kind
			out = append(out, v)
		}
	}
	for _, n := range []int{math.MinInt, -greatest, -1, greatest + 1, 1 << 32, math.MaxInt} {
		out = append(out, reg(n, 0, ""), dead(n, 7))
	}
	for _, n := range []int{math.MinInt, -8, -1, 8, 9, 256, 1 << 32, math.MaxInt} {
		out = append(out, reg(0, n, ""), reg(greatest, n, "a"), dead(1, n))
	}
	for _, text := range []string{"123456789", "ééééé", strings.Repeat("\x00", 9), strings.Repeat("x", 16), strings.Repeat("x", 1000)} {
		out = append(out, reg(0, 0, text), reg(greatest, 7, text))
	}
	for _, text := range []string{"\x00", "a", "12345678", "123456789"} {
		v := dead(1, 1)
		v.Text = text
		out = append(out, v)
	}
	return append(append(out, wrongRows()...), otherParts()...)
}

func wrongRows() []api.Value {
	var out []api.Value
	for _, row := range [][]int{nil, {}, {0}, make([]int, 7), make([]int, 7, 8), make([]int, 9), full(1)[:7], make([]int, 16), make([]int, 1000)} {
		out = append(out, count(row, noughts()), count(noughts(), row), count(row, row))
	}
	for i := range 8 {
		for _, n := range []int{math.MinInt, -65535, -1, 65536, 1 << 32, math.MaxInt} {
			out = append(out, count(noughts(i, n), noughts()), count(full(65535), noughts(i, n)))
		}
	}
	return out
}

// otherParts are what would be values, but for one part that their kind does not name.
func otherParts() []api.Value {
	var out []api.Value
	for _, spoil := range []struct {
		of    []int
		spoil func(*api.Value)
	}{
		{[]int{2, 3}, func(v *api.Value) { v.Time = 1 }},
		{[]int{2, 3}, func(v *api.Value) { v.Time = -1 }},
		{[]int{2, 3}, func(v *api.Value) { v.Node = 1 }},
		{[]int{2, 3}, func(v *api.Value) { v.Node = 1 << 32 }},
		{[]int{2, 3}, func(v *api.Value) { v.Dead = true }},
		{[]int{2, 3}, func(v *api.Value) { v.Text = "a" }},
		{[]int{2, 3}, func(v *api.Value) { v.Text = "\x00" }},
		{[]int{1, 3}, func(v *api.Value) { v.Plus = []int{0} }},
		{[]int{1, 3}, func(v *api.Value) { v.Plus = noughts() }},
		{[]int{1, 3}, func(v *api.Value) { v.Minus = []int{0} }},
		{[]int{1, 3}, func(v *api.Value) { v.Minus = full(1) }},
		{[]int{1, 3}, func(v *api.Value) { v.Plus, v.Minus = noughts(), noughts() }},
		{[]int{1, 2}, func(v *api.Value) { v.Flags = 1 }},
		{[]int{1, 2}, func(v *api.Value) { v.Flags = 1 << 63 }},
	} {
		for _, v := range []api.Value{reg(0, 0, ""), reg(3, 1, "a"), dead(3, 1), count(noughts(), noughts()), count(full(3), full(2)), flags(0), flags(5)} {
			if slices.Contains(spoil.of, v.Kind) {
				spoil.spoil(&v)
				out = append(out, v)
			}
		}
	}
	return out
}

func TestCheck(t *testing.T) {
	for _, v := range goods() {
		if e := value.Check(v); e != api.OK {
			t.Errorf("Check(%v): %v", v, e)
		}
	}
	for _, v := range wrongs() {
		if e := value.Check(v); e != api.ErrForm {
			t.Errorf("Check(%v): %v, not ErrForm", v, e)
		}
	}
}

// expect holds Join and Below of two, in both orders, against the one value, or error, that it has to be.
func expect(t *testing.T, a, b, want api.Value, wantErr api.Errno) {
	t.Helper()
	for _, x := range [][2]api.Value{{a, b}, {b, a}} {
		if got, e := value.Join(x[0], x[1]); e != wantErr || !alike(got, want) {
			t.Fatalf("Join(%v, %v): %v, %v, not %v, %v", x[0], x[1], got, e, want, wantErr)
		}
		below := wantErr == api.OK && alike(x[1], want)
		if got := value.Below(x[0], x[1]); got != below {
			t.Fatalf("Below(%v, %v): %v", x[0], x[1], got)
		}
	}
}

func TestTheChaptersExample(t *testing.T) {
	expect(t, reg(3, 1, ""), reg(3, 2, ""), reg(3, 2, ""), api.OK)
	expect(t, reg(3, 1, "z"), reg(3, 2, "a"), reg(3, 2, "a"), api.OK)
}

func TestRegistersInOrder(t *testing.T) {
	all := registers()
	for i, a := range all {
		for k, b := range all {
			expect(t, a, b, all[max(i, k)], api.OK)
			if value.Below(a, b) != (i <= k) {
				t.Errorf("Below(%v, %v): %v", a, b, value.Below(a, b))
			}
		}
	}
}

// Each part decides alone where all ahead of it are alike, whatever the parts behind it are.
func TestPartsOfRegisters(t *testing.T) {
	for _, x := range []struct{ less, more api.Value }{
		{dead(4, 7), reg(5, 0, "")},
		{reg(4, 7, "zzzzzzzz"), dead(5, 0)},
		{dead(5, 1), reg(5, 2, "")},
		{reg(5, 1, "zzzzzzzz"), reg(5, 2, "a")},
		{reg(5, 2, "zzzzzzzz"), dead(5, 2)},
		{reg(5, 2, ""), dead(5, 2)},
		{reg(5, 2, "ring"), reg(5, 2, "rings")},
		{reg(5, 2, "rinz"), reg(5, 2, "s")},
		{reg(5, 2, ""), reg(5, 2, "\x00")},
		{reg(5, 2, "10"), reg(5, 2, "9")},
	} {
		expect(t, x.less, x.more, x.more, api.OK)
		if value.Below(x.more, x.less) {
			t.Errorf("%v is below %v", x.more, x.less)
		}
	}
}

func TestCountersPlaceByPlace(t *testing.T) {
	expect(t, count([]int{1, 2, 3, 4, 5, 6, 7, 8}, full(9)), count([]int{8, 7, 6, 5, 4, 3, 2, 1}, noughts(4, 65535)), count([]int{8, 7, 6, 5, 5, 6, 7, 8}, []int{9, 9, 9, 9, 65535, 9, 9, 9}), api.OK)
	expect(t, count(noughts(0, 5), noughts()), count(noughts(), noughts(0, 7)), count(noughts(0, 5), noughts(0, 7)), api.OK)
	for i := range 8 {
		for k := range 8 {
			want := noughts(i, 3, k, 65535)
			expect(t, count(noughts(i, 3), noughts()), count(noughts(k, 65535), noughts()), count(want, noughts()), api.OK)
			expect(t, count(noughts(), noughts(i, 3)), count(noughts(), noughts(k, 65535)), count(noughts(), want), api.OK)
			expect(t, count(noughts(i, 3), noughts()), count(noughts(), noughts(k, 65535)), count(noughts(i, 3), noughts(k, 65535)), api.OK)
		}
	}
}

func TestFlagsThatOneHas(t *testing.T) {
	for _, x := range [][3]uint64{
		{0, 0, 0}, {5, 6, 7}, {1, 1, 1}, {1 << 63, 3, 1<<63 + 3}, {1 << 31, 1 << 32, 3 << 31}, {0x5555555555555555, 0xaaaaaaaaaaaaaaaa, math.MaxUint64}, {math.MaxUint64, 12, math.MaxUint64}, {8, 0, 8},
	} {
		expect(t, flags(x[0]), flags(x[1]), flags(x[2]), api.OK)
	}
	for i := range 64 {
		for k := range i {
			expect(t, flags(1<<i), flags(1<<k), flags(1<<i+1<<k), api.OK)
		}
	}
}

// R1: what is none is told ahead of two kinds, on either side; with an error there is no value.
func TestJoinRefuses(t *testing.T) {
	for _, bad := range wrongs() {
		for _, v := range []api.Value{reg(1, 1, "a"), dead(1, 1), count(noughts(), full(1)), flags(0), {}, {Kind: 4}, reg(-1, 0, ""), count(nil, nil)} {
			expect(t, bad, v, api.Value{}, api.ErrForm)
		}
		expect(t, bad, bad, api.Value{}, api.ErrForm)
		if value.Below(bad, bad) {
			t.Errorf("%v is below itself, and is none", bad)
		}
	}
	for _, a := range goods() {
		for _, b := range goods() {
			if a.Kind != b.Kind {
				expect(t, a, b, api.Value{}, api.ErrKind)
			}
		}
	}
}

// kinds are some values of each kind, few enough to hold three of them against each other.
func kinds() [][]api.Value {
	return [][]api.Value{registers(), counters(), allFlags()}
}

func join(t *testing.T, a, b api.Value) api.Value {
	t.Helper()
	out, e := value.Join(a, b)
	if e != api.OK || value.Check(out) != api.OK || out.Kind != a.Kind {
		t.Fatalf("Join(%v, %v): %v, %v", a, b, out, e)
	}
	return out
}

// Joined with itself a value is itself; two in any order, and three in any grouping, are the same.
func TestJoinInAnyOrder(t *testing.T) {
	for _, all := range kinds() {
		for _, a := range all {
			if got := join(t, a, a); !alike(got, a) || !value.Below(a, a) {
				t.Fatalf("%v with itself: %v", a, got)
			}
			for _, b := range all {
				ab := join(t, a, b)
				if !alike(ab, join(t, b, a)) {
					t.Fatalf("%v and %v are not the same in the other order", a, b)
				}
				for _, c := range all {
					if left, right := join(t, ab, c), join(t, a, join(t, b, c)); !alike(left, right) {
						t.Fatalf("%v, %v, %v: %v, or %v", a, b, c, left, right)
					}
				}
			}
		}
	}
}

// Both are below the join, and it is below all that both are below.
func TestJoinIsTheLeast(t *testing.T) {
	for _, all := range kinds() {
		for _, a := range all {
			for _, b := range all {
				both := join(t, a, b)
				if !value.Below(a, both) || !value.Below(b, both) {
					t.Fatalf("%v and %v are not both below %v", a, b, both)
				}
				if value.Below(a, b) && value.Below(b, a) && !alike(a, b) {
					t.Fatalf("%v and %v are below each other", a, b)
				}
				for _, c := range all {
					if value.Below(a, c) && value.Below(b, c) && !value.Below(both, c) {
						t.Fatalf("%v and %v are below %v, and %v is not", a, b, c, both)
					}
				}
			}
		}
	}
}

// A counter is below one that has no number less, flags below those that have them all.
func TestBelow(t *testing.T) {
	base := count(full(5), full(6))
	for i := range 8 {
		for _, up := range []int{1, 65529} {
			more := twin(base)
			more.Plus[i] += up
			other := twin(base)
			other.Minus[i] += up
			for _, x := range []api.Value{more, other} {
				if !value.Below(base, x) || value.Below(x, base) {
					t.Errorf("%v and %v: %v, %v", base, x, value.Below(base, x), value.Below(x, base))
				}
			}
			if value.Below(more, other) || value.Below(other, more) {
				t.Errorf("%v and %v: one is below", more, other)
			}
		}
	}
	for _, a := range allFlags() {
		for _, b := range allFlags() {
			if got := value.Below(a, b); got != (a.Flags&^b.Flags == 0) {
				t.Errorf("Below(%v, %v): %v", a, b, got)
			}
		}
	}
}

func TestLeast(t *testing.T) {
	for kind, want := range map[int]api.Value{1: reg(0, 0, ""), 2: count(noughts(), noughts()), 3: flags(0)} {
		got, e := value.Least(kind)
		if e != api.OK || !alike(got, want) || value.Check(got) != api.OK || value.Sum(got) != 0 {
			t.Errorf("Least(%d): %v, %v, not %v", kind, got, e, want)
		}
		for _, v := range goods() {
			if value.Below(got, v) != (v.Kind == kind) {
				t.Errorf("Least(%d) is below %v: %v", kind, v, value.Below(got, v))
			}
		}
	}
	for _, kind := range []int{math.MinInt, -3, -1, 0, 4, 5, 256 + 1, 1<<32 + 2, math.MaxInt} {
		if got, e := value.Least(kind); e != api.ErrKind || !alike(got, api.Value{}) {
			t.Errorf("Least(%d): %v, %v, not ErrKind", kind, got, e)
		}
	}
}

func TestSum(t *testing.T) {
	for _, x := range []struct {
		v    api.Value
		want int
	}{
		{count(noughts(), noughts()), 0},
		{count(full(65535), noughts()), 524280},
		{count(noughts(), full(65535)), -524280},
		{count(full(65535), full(65535)), 0},
		{count([]int{1, 2, 3, 4, 5, 6, 7, 8}, noughts()), 36},
		{count([]int{1, 20, 300, 4000, 50000, 6, 70, 800}, []int{8, 80, 900, 0, 0, 1, 10, 9000}), 45198},
		{count(noughts(0, 5), noughts(3, 2)), 3},
		{count(noughts(7, 1), noughts(0, 65535)), -65534},
	} {
		if got := value.Sum(x.v); got != x.want {
			t.Errorf("Sum(%v): %d, not %d", x.v, got, x.want)
		}
	}
	for i := range 8 {
		if plus, minus := value.Sum(count(noughts(i, 9), noughts())), value.Sum(count(noughts(), noughts(i, 9))); plus != 9 || minus != -9 {
			t.Errorf("9 at place %d: %d, %d", i, plus, minus)
		}
	}
}

func TestSumOfOthers(t *testing.T) {
	for _, v := range append(wrongs(), append(registers(), allFlags()...)...) {
		if got := value.Sum(v); got != 0 {
			t.Errorf("Sum(%v): %d, and it is no counter", v, got)
		}
	}
}

// parts are alike, but for one part each, and values or none alike.
func parts() []api.Value {
	base := api.Value{Kind: 2, Time: 1, Node: 2, Text: "a", Plus: full(1), Minus: full(2), Flags: 3}
	out := []api.Value{{}, base}
	for _, change := range []func(*api.Value){
		func(v *api.Value) { v.Kind = 3 },
		func(v *api.Value) { v.Kind = -2 },
		func(v *api.Value) { v.Time = 2 },
		func(v *api.Value) { v.Time = 1<<32 + 1 },
		func(v *api.Value) { v.Node = -2 },
		func(v *api.Value) { v.Dead = true },
		func(v *api.Value) { v.Text = "" },
		func(v *api.Value) { v.Text = "A" },
		func(v *api.Value) { v.Text = "a\x00" },
		func(v *api.Value) { v.Plus[0] = 2 },
		func(v *api.Value) { v.Plus[7] = 2 },
		func(v *api.Value) { v.Plus = v.Plus[:7] },
		func(v *api.Value) { v.Plus = append(v.Plus, 0) },
		func(v *api.Value) { v.Plus = nil },
		func(v *api.Value) { v.Minus[0] = 1 },
		func(v *api.Value) { v.Minus[7] = -2 },
		func(v *api.Value) { v.Minus = v.Minus[:7] },
		func(v *api.Value) { v.Minus = append(v.Minus, 2) },
		func(v *api.Value) { v.Minus = nil },
		func(v *api.Value) { v.Plus, v.Minus = v.Minus, v.Plus },
		func(v *api.Value) { v.Flags = 2 },
		func(v *api.Value) { v.Flags |= 1 << 63 },
	} {
		v := twin(base)
		change(&v)
		out = append(out, v)
	}
	return out
}

func TestSamePartByPart(t *testing.T) {
	all := parts()
	for i, a := range all {
		for k, b := range all {
			if got := value.Same(a, twin(b)); got != (i == k) {
				t.Errorf("Same(%v, %v): %v", a, b, got)
			}
		}
	}
}

func TestSameOfAll(t *testing.T) {
	all := append(goods(), wrongs()...)
	for _, a := range all {
		for _, b := range all {
			if got := value.Same(a, b); got != alike(a, b) {
				t.Errorf("Same(%v, %v): %v", a, b, got)
			}
		}
	}
}

// R5: a list without things is nil or empty.
func TestListsWithoutThings(t *testing.T) {
	for _, v := range []api.Value{reg(3, 1, "a"), dead(3, 1), flags(6)} {
		empty := twin(v)
		if !value.Same(v, empty) || !value.Same(empty, v) || value.Check(empty) != api.OK {
			t.Errorf("%v with empty lists is another one", v)
		}
		expect(t, v, empty, v, api.OK)
	}
	if !value.Same(api.Value{}, twin(api.Value{})) {
		t.Error("nothing with empty lists is another one")
	}
}

// joins are all that two of the values come to.
func joins(all []api.Value) []api.Value {
	var out []api.Value
	for _, a := range all {
		for _, b := range all {
			v, _ := value.Join(a, b)
			out = append(out, v)
		}
	}
	return out
}

// spoil writes over all that the lists of v can reach, behind their ends too.
func spoil(v api.Value) {
	for _, list := range [][]int{v.Plus, v.Minus} {
		list = list[:cap(list)]
		for i := range list {
			list[i] = -77
		}
	}
}

// R3, R4: the values are as they were, whatever is asked of them, and whatever is done with what is told; the same call tells the same.
func TestNothingIsShared(t *testing.T) {
	long := make([]int, 16)
	given := append(counters()[:8], reg(1, 1, "a"), flags(7), api.Value{Kind: 1, Plus: long[:0], Minus: long[:0]}, api.Value{Kind: 1, Time: 9, Plus: long[:0], Minus: long[:0]}, api.Value{Kind: 3, Plus: long[:0]}, count(long[:8], long[:8]), count(long[:7], long[:9]), count(full(3)[:7:7], full(65536)))
	was := make([]api.Value, len(given))
	for i, v := range given {
		was[i] = twin(v)
	}
	first := joins(given)
	kept := make([]api.Value, len(first))
	for i, v := range first {
		kept[i] = twin(v)
	}
	for _, v := range first {
		spoil(v)
	}
	for i, v := range given {
		value.Check(v)
		value.Sum(v)
		if !alike(v, was[i]) {
			t.Fatalf("%v is %v now", was[i], v)
		}
	}
	if slices.Contains(long, -77) {
		t.Error("what is told reaches into what was given, behind a list's end")
	}
	for i, v := range joins(given) {
		if !alike(v, kept[i]) {
			t.Errorf("call %d: %v, then %v", i, kept[i], v)
		}
	}
}

// The lists of one answer share nothing, also where those that were given do.
func TestListsOfOneAnswer(t *testing.T) {
	one := full(4)
	got, e := value.Join(count(one, one), count(one, one))
	if e != api.OK {
		t.Fatal(e)
	}
	got.Plus[0], got.Minus[1] = 1, 2
	if !alike(got, count(with(full(4), 0, 1), with(full(4), 1, 2))) || !slices.Equal(one, full(4)) {
		t.Errorf("%v, of %v", got, one)
	}
	least, _ := value.Least(2)
	least.Plus[0], least.Minus[1] = 1, 2
	if !alike(least, count(noughts(0, 1), noughts(1, 2))) {
		t.Errorf("the lists of a Least are one: %v", least)
	}
	if again, _ := value.Least(2); !alike(again, count(noughts(), noughts())) {
		t.Errorf("a second Least: %v", again)
	}
}

func with(list []int, at, n int) []int {
	list[at] = n
	return list
}

// isValue is what the document says of a value, kind by kind.
func isValue(v api.Value) bool {
	rest := twin(v)
	switch v.Kind {
	case 1:
		if v.Time < 0 || v.Time > greatest || v.Node < 0 || v.Node > 7 || len(v.Text) > 8 || v.Dead && len(v.Text) > 0 {
			return false
		}
		rest.Time, rest.Node, rest.Dead, rest.Text = 0, 0, false, ""
	case 2:
		for _, row := range [][]int{v.Plus, v.Minus} {
			if len(row) != 8 || slices.Min(row) < 0 || slices.Max(row) > 65535 {
				return false
			}
		}
		rest.Plus, rest.Minus = nil, nil
	case 3:
		rest.Flags = 0
	default:
		return false
	}
	return alike(rest, api.Value{Kind: v.Kind})
}

// joinOf is what the document says of Join.
func joinOf(a, b api.Value) (api.Value, api.Errno) {
	switch {
	case !isValue(a) || !isValue(b):
		return api.Value{}, api.ErrForm
	case a.Kind != b.Kind:
		return api.Value{}, api.ErrKind
	case a.Kind == 3:
		return flags(a.Flags | b.Flags), api.OK
	case a.Kind == 2:
		out := twin(a)
		for i := range 8 {
			out.Plus[i], out.Minus[i] = max(a.Plus[i], b.Plus[i]), max(a.Minus[i], b.Minus[i])
		}
		return out, api.OK
	case a.Time != b.Time:
		return pick(a, b, a.Time > b.Time), api.OK
	case a.Node != b.Node:
		return pick(a, b, a.Node > b.Node), api.OK
	case a.Dead != b.Dead:
		return pick(a, b, a.Dead), api.OK
	}
	return pick(a, b, strings.Compare(a.Text, b.Text) > 0), api.OK
}

func pick(a, b api.Value, first bool) api.Value {
	if first {
		return a
	}
	return b
}

// holdAll holds every call of two against the document's words.
func holdAll(t *testing.T, a, b api.Value) {
	t.Helper()
	for _, v := range []api.Value{a, b} {
		if got := value.Check(v) == api.OK; got != isValue(v) {
			t.Fatalf("Check(%v): %v", v, value.Check(v))
		}
		sum := 0
		if v.Kind == 2 && isValue(v) {
			for i := range 8 {
				sum += v.Plus[i] - v.Minus[i]
			}
		}
		if got := value.Sum(v); got != sum {
			t.Fatalf("Sum(%v): %d, not %d", v, got, sum)
		}
	}
	want, e := joinOf(a, b)
	expect(t, a, b, want, e)
	if value.Same(a, b) != alike(a, b) || value.Same(b, a) != alike(a, b) {
		t.Fatalf("Same(%v, %v): %v", a, b, value.Same(a, b))
	}
}

func TestAllPairs(t *testing.T) {
	all := append(goods(), wrongs()...)
	for _, a := range all {
		for _, b := range all {
			holdAll(t, a, b)
		}
	}
}

// valueFrom makes a value, or what is nearly one, out of numbers and bytes: each byte of rows is a number of Plus or Minus.
func valueFrom(kind, time, node int, isDead bool, text string, rows []byte, cut int, f uint64, scale int) api.Value {
	v := api.Value{Kind: kind, Time: time, Node: node, Dead: isDead, Text: text, Flags: f}
	for i, b := range rows {
		if i < cut {
			v.Plus = append(v.Plus, int(b)*scale)
		} else {
			v.Minus = append(v.Minus, int(b)*scale)
		}
	}
	return v
}

func FuzzAllCalls(f *testing.F) {
	f.Add(1, 3, 1, false, "a", "b", []byte{}, []byte{}, 0, uint64(0), 1)
	f.Add(2, 0, 0, false, "", "", []byte("abcdefghijklmnop"), []byte("ponmlkjihgfedcba"), 8, uint64(0), 257)
	f.Add(3, 0, 0, false, "", "", []byte{}, []byte{}, 0, uint64(5), 1)
	f.Add(4, -1, 8, true, "123456789", "x", []byte{0}, []byte{1}, 1, uint64(1<<63), -1)
	f.Fuzz(func(t *testing.T, kind, time, node int, isDead bool, left, right string, rows, others []byte, cut int, bits uint64, scale int) {
		a := valueFrom(kind, time, node, isDead, left, rows, cut, bits, scale)
		b := valueFrom(kind, time, node, isDead, right, others, cut, bits>>1, scale)
		near := []api.Value{
			a, b, reg(time&greatest, node&7, left[:min(len(left), 8)]), reg(time&greatest, node&7, right[:min(len(right), 8)]), dead(time&greatest, node&7),
			{Kind: 2, Plus: a.Plus, Minus: a.Minus}, {Kind: 2, Plus: b.Plus, Minus: b.Minus}, {Kind: 2, Plus: a.Plus, Minus: b.Plus}, flags(bits), flags(^bits >> 3),
		}
		for _, x := range near {
			for _, y := range near {
				holdAll(t, x, y)
			}
		}
		if _, e := value.Least(kind); (e == api.OK) != (kind >= 1 && kind <= 3) {
			t.Fatalf("Least(%d): %v", kind, e)
		}
	})
}
