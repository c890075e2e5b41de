package entry_test

import (
	"math"
	"reflect"
	"slices"
	"strings"
	"testing"

	"ouroboros/api"
	"ouroboros/entry"
)

const (
	greatest = 2147483647
	highHalf = 0xffffffff00000000
)

func reg(time, node int, text string) api.Value {
	return api.Value{Kind: 1, Time: time, Node: node, Text: text}
}

func dead(time, node int) api.Value {
	return api.Value{Kind: 1, Time: time, Node: node, Dead: true}
}

// noughts are 8 of them, but for the numbers of some places: a place, its number, a place, its number.
func noughts(but ...int) []int {
	out := make([]int, 8)
	for i := 0; i < len(but); i += 2 {
		out[but[i]] = but[i+1]
	}
	return out
}

func full(n int) []int { return slices.Repeat([]int{n}, 8) }

func count(plus, minus []int) api.Value {
	return api.Value{Kind: 2, Plus: plus, Minus: minus}
}

func flags(f uint64) api.Value { return api.Value{Kind: 3, Flags: f} }

func of(key string, v api.Value) api.Entry { return api.Entry{Key: key, Val: v} }

func zeros(n int) string { return string(make([]byte, n)) }

// twin is another one that is alike, shares nothing, and has no list that is nil.
func twin(e api.Entry) api.Entry {
	e.Val.Plus, e.Val.Minus = append([]int{}, e.Val.Plus...), append([]int{}, e.Val.Minus...)
	return e
}

// alike holds two against each other by the library: lists without things are alike.
func alike(a, b api.Entry) bool { return reflect.DeepEqual(twin(a), twin(b)) }

// values are some of each kind, with all edges of their parts.
func values() []api.Value {
	out := []api.Value{
		reg(0, 0, ""), reg(0, 7, ""), reg(greatest, 0, ""), reg(greatest, 7, "12345678"), reg(0, 0, "12345678"), reg(258, 3, "hi"), reg(1, 1, "\x00"), reg(1, 1, zeros(8)), reg(1, 1, "a\x00"), reg(1, 1, "\x00a"),
		reg(65536, 2, "\xff\xff\xff\xff\xff\xff\xff\xff"), reg(1<<24, 5, "é"), dead(0, 0), dead(0, 7), dead(greatest, 0), dead(greatest, 7), dead(0x01020304, 4),
		count(noughts(), noughts()), count(full(65535), full(65535)), count(full(65535), noughts()), count(noughts(), full(65535)), count([]int{1, 2, 3, 4, 5, 6, 7, 8}, []int{256, 512, 9, 10, 11, 12, 13, 14}), count(full(258), full(513)),
		flags(0), flags(5), flags(math.MaxUint64), flags(1<<32 - 1), flags(highHalf), flags(1 << 31), flags(1 << 32), flags(1 << 63), flags(0x0102030405060708), flags(1<<63 + 1),
	}
	for i := range 8 {
		out = append(out, count(noughts(i, 65535), noughts()), count(noughts(), noughts(i, 256)), reg(i, i, "abcdefgh"[:i]))
	}
	return out
}

func keys() []string {
	return []string{
		"a", "ab", "abc", "abcd", "abcde", "abcdef", "abcdefg", "abcdefgh", "abcdefgi", "b", "k", "z", "A", "10", "9",
		"\x00", "\x00\x00", zeros(8), "a\x00", "a\x00b", "\x00a", "a" + zeros(7), zeros(7) + "a", "\xff", "\xff\xff\xff\xff\xff\xff\xff\xff", "\x7f", "\x80", "é", "\xed\xa0\x80",
	}
}

func goods() []api.Entry {
	var out []api.Entry
	for _, v := range values() {
		out = append(out, of("a", v), of("12345678", v), of("\x00", v), of("a\x00", v))
	}
	for _, key := range keys() {
		out = append(out, of(key, reg(1, 2, "x")), of(key, count(full(1), full(2))), of(key, flags(3)))
	}
	return append(out, twin(of("n", reg(3, 1, "ring"))), twin(of("n", flags(6))))
}

func wrongKeys() []string {
	return []string{"", "123456789", zeros(9), "ééééé", strings.Repeat("k", 16), strings.Repeat("k", 256+1), strings.Repeat("k", 1000)}
}

// wrongValues are none, each by one part.
func wrongValues() []api.Value {
	out := []api.Value{
		{}, {Kind: 4}, {Kind: -1}, {Kind: math.MinInt}, {Kind: math.MaxInt}, {Kind: 256 + 1, Text: "a"}, {Kind: 1<<32 + 3, Flags: 1},
		reg(-1, 0, ""), reg(greatest+1, 0, ""), reg(1<<32, 0, ""), reg(math.MinInt, 0, ""), reg(math.MaxInt, 0, ""),
		reg(0, -1, ""), reg(0, 8, ""), reg(0, 256, ""), reg(0, math.MinInt, ""), reg(0, math.MaxInt, ""),
		reg(0, 0, "123456789"), reg(0, 0, strings.Repeat("x", 300)), {Kind: 1, Dead: true, Text: "a"},
		{Kind: 1, Flags: 1}, {Kind: 1, Plus: noughts()}, {Kind: 1, Minus: []int{0}},
		count(nil, nil), count(noughts()[:7], noughts()), count(noughts(), make([]int, 9)), count(noughts(), nil),
		{Kind: 2, Plus: noughts(), Minus: noughts(), Time: 1}, {Kind: 2, Plus: noughts(), Minus: noughts(), Flags: 1}, {Kind: 2, Plus: noughts(), Minus: noughts(), Text: "a"},
		{Kind: 3, Time: 1}, {Kind: 3, Node: 1}, {Kind: 3, Dead: true}, {Kind: 3, Text: "a"}, {Kind: 3, Plus: []int{0}}, {Kind: 3, Minus: noughts()},
	}
	for i := range 8 {
		for _, n := range []int{-1, 65536, math.MinInt, math.MaxInt} {
			out = append(out, count(noughts(i, n), noughts()), count(noughts(), noughts(i, n)))
		}
	}
	return out
}

// wrongs are none: by their key, by their value, or by both.
func wrongs() []api.Entry {
	out := []api.Entry{{}}
	for _, key := range wrongKeys() {
		for _, v := range []api.Value{reg(1, 2, "x"), dead(1, 2), count(noughts(), noughts()), flags(3), {}} {
			out = append(out, of(key, v))
		}
	}
	for _, v := range wrongValues() {
		out = append(out, of("a", v), of("12345678", v), of("\x00", v))
	}
	return out
}

func TestCheck(t *testing.T) {
	for _, e := range goods() {
		if no := entry.Check(e); no != api.OK {
			t.Errorf("Check(%v): %v", e, no)
		}
	}
	for _, e := range wrongs() {
		if no := entry.Check(e); no != api.ErrForm {
			t.Errorf("Check(%v): %v, not ErrForm", e, no)
		}
	}
}

func TestKeysByLength(t *testing.T) {
	for size := range 20 {
		for _, key := range []string{strings.Repeat("k", size), zeros(size)} {
			want := api.ErrForm
			if size >= 1 && size <= 8 {
				want = api.OK
			}
			if no := entry.Check(of(key, flags(1))); no != want {
				t.Errorf("a key of %d bytes: %v", size, no)
			}
		}
	}
}

// written are entries, and their bytes, put together by hand.
func written() map[string]api.Entry {
	head := "\x01\x01k" + zeros(7)
	return map[string]api.Entry{
		"\x03\x01\x6b" + zeros(7) + "\x05" + zeros(31):                                 of("k", flags(5)),
		"\x03\x0812345678" + "\xff\xff\xff\xff" + zeros(28):                            of("12345678", flags(1<<32-1)),
		"\x03\x0812345678" + zeros(4) + "\xff\xff\xff\xff" + zeros(24):                 of("12345678", flags(highHalf)),
		"\x03\x02\x00\x00" + zeros(6) + "\x08\x07\x06\x05\x04\x03\x02\x01" + zeros(24): of("\x00\x00", flags(0x0102030405060708)),
		head + zeros(32): of("k", reg(0, 0, "")),
		head + "\xff\xff\xff\x7f\x07\x00\x08abcdefgh" + zeros(17):                                                            of("k", reg(greatest, 7, "abcdefgh")),
		head + "\x04\x03\x02\x01\x05\x01\x00" + zeros(25):                                                                    of("k", dead(0x01020304, 5)),
		head + "\x02\x01\x00\x00\x03\x00\x02hi" + zeros(23):                                                                  of("k", reg(258, 3, "hi")),
		head + "\x00\x00\x00\x00\x00\x00\x01\x00" + zeros(24):                                                                of("k", reg(0, 0, "\x00")),
		"\x02\x03a\x00b" + zeros(5) + zeros(32):                                                                              of("a\x00b", count(noughts(), noughts())),
		"\x02\x01n" + zeros(7) + strings.Repeat("\xff", 32):                                                                  of("n", count(full(65535), full(65535))),
		"\x02\x01n" + zeros(7) + strings.Repeat("\x02\x01", 8) + strings.Repeat("\x01\x02", 8):                               of("n", count(full(258), full(513))),
		"\x02\x01n" + zeros(7) + "\x01\x00\x02\x00\x03\x00\x04\x00\x05\x00\x06\x00\x07\x00\x08\x00" + zeros(14) + "\x00\x01": of("n", count([]int{1, 2, 3, 4, 5, 6, 7, 8}, noughts(7, 256))),
	}
}

func TestBytesByHand(t *testing.T) {
	for s, e := range written() {
		if got, no := entry.Put(e); no != api.OK || got != s {
			t.Errorf("Put(%v): %q, %v, not %q", e, got, no, s)
		}
		if got, no := entry.Get(s); no != api.OK || !alike(got, e) {
			t.Errorf("Get(%q): %v, %v, not %v", s, got, no, e)
		}
	}
}

// bytesOf is what the document says of an entry's bytes, place by place.
func bytesOf(e api.Entry) string {
	out := make([]byte, 42)
	out[0], out[1] = byte(e.Val.Kind), byte(len(e.Key))
	copy(out[2:10], e.Key)
	v := e.Val
	switch v.Kind {
	case 1:
		out[10], out[11], out[12], out[13] = byte(v.Time%256), byte(v.Time/256%256), byte(v.Time/65536%256), byte(v.Time/16777216)
		out[14] = byte(v.Node)
		if v.Dead {
			out[15] = 1
		}
		out[16] = byte(len(v.Text))
		copy(out[17:25], v.Text)
	case 2:
		for i := range 8 {
			out[10+2*i], out[11+2*i] = byte(v.Plus[i]%256), byte(v.Plus[i]/256)
			out[26+2*i], out[27+2*i] = byte(v.Minus[i]%256), byte(v.Minus[i]/256)
		}
	case 3:
		for i := range 8 {
			out[10+i] = byte(v.Flags >> (8 * i))
		}
	}
	return string(out)
}

// isZero tells whether s has nothing but zeros.
func isZero(s string) bool { return strings.Count(s, "\x00") == len(s) }

// entryOf is what the document says of the entry whose bytes s are, if there is one.
func entryOf(s string) (api.Entry, bool) {
	if len(s) != 42 || s[1] < 1 || s[1] > 8 || !isZero(s[2+int(s[1]):10]) {
		return api.Entry{}, false
	}
	at := func(i int) int { return int(s[i]) }
	e := of(s[2:2+at(1)], api.Value{Kind: at(0)})
	switch s[0] {
	case 1:
		size := at(16)
		if s[13] > 127 || s[14] > 7 || s[15] > 1 || size > 8 || s[15] == 1 && size > 0 || !isZero(s[17+size:]) {
			return api.Entry{}, false
		}
		e.Val.Time, e.Val.Node, e.Val.Dead, e.Val.Text = at(10)+at(11)*256+at(12)*65536+at(13)*16777216, at(14), at(15) == 1, s[17:17+size]
	case 2:
		for i := range 8 {
			e.Val.Plus = append(e.Val.Plus, at(10+2*i)+at(11+2*i)*256)
			e.Val.Minus = append(e.Val.Minus, at(26+2*i)+at(27+2*i)*256)
		}
	case 3:
		if !isZero(s[18:]) {
			return api.Entry{}, false
		}
		for i := range 8 {
			e.Val.Flags += uint64(s[10+i]) << (8 * i)
		}
	default:
		return api.Entry{}, false
	}
	return e, true
}

// holdBytes holds Get of any text against the document's words; what is got is an entry, and is put again as the same text.
func holdBytes(t *testing.T, s string) {
	t.Helper()
	want, ok := entryOf(s)
	got, no := entry.Get(s)
	if !ok {
		if no != api.ErrForm || !alike(got, api.Entry{}) {
			t.Fatalf("Get(%q): %v, %v, and it is no entry", s, got, no)
		}
		return
	}
	if no != api.OK || !alike(got, want) || entry.Check(got) != api.OK {
		t.Fatalf("Get(%q): %v, %v, not %v", s, got, no, want)
	}
	if again, no := entry.Put(got); no != api.OK || again != s {
		t.Fatalf("Put(%v): %q, %v, not %q", got, again, no, s)
	}
}

// What is put is got again.
func TestPutAndGet(t *testing.T) {
	for _, e := range goods() {
		s, no := entry.Put(e)
		if no != api.OK || s != bytesOf(e) || len(s) != 42 {
			t.Fatalf("Put(%v): %q, %v, not %q", e, s, no, bytesOf(e))
		}
		if got, no := entry.Get(s); no != api.OK || !alike(got, e) {
			t.Fatalf("Get(%q): %v, %v, not %v", s, got, no, e)
		}
		holdBytes(t, s)
	}
}

func TestPutRefuses(t *testing.T) {
	for _, e := range wrongs() {
		if s, no := entry.Put(e); no != api.ErrForm || s != "" {
			t.Errorf("Put(%v): %q, %v, not ErrForm", e, s, no)
		}
	}
}

func TestBytesTellEntriesApart(t *testing.T) {
	all := goods()
	for _, a := range all {
		for _, b := range all {
			x, _ := entry.Put(a)
			y, _ := entry.Put(b)
			if (x == y) != alike(a, b) {
				t.Fatalf("%v and %v: %q, %q", a, b, x, y)
			}
		}
	}
}

func expectNone(t *testing.T, s string) {
	t.Helper()
	if got, no := entry.Get(s); no != api.ErrForm || !alike(got, api.Entry{}) {
		t.Errorf("Get(%q): %v, %v, not ErrForm", s, got, no)
	}
}

// put is s with those bytes at that place.
func put(s string, at int, with string) string { return s[:at] + with + s[at+len(with):] }

func TestTextsByLength(t *testing.T) {
	for _, e := range goods() {
		s := bytesOf(e)
		for size := range 42 {
			expectNone(t, s[:size])
		}
		for _, more := range []string{"\x00", "\x01", zeros(42), s, strings.Repeat("\xff", 1000)} {
			expectNone(t, s+more)
		}
		expectNone(t, s[1:])
	}
	for size := range 200 {
		expectNone(t, zeros(size))
		expectNone(t, strings.Repeat("\xff", size))
	}
	expectNone(t, strings.Repeat("\x01", 1<<20))
}

// Bytes that say nothing are zeros: behind the key, behind the text and behind the value.
func TestBytesBehind(t *testing.T) {
	for _, e := range goods() {
		s := bytesOf(e)
		silent := []int{}
		for i := 2 + len(e.Key); i < 10; i++ {
			silent = append(silent, i)
		}
		end := map[int]int{1: 17 + len(e.Val.Text), 2: 42, 3: 18}[e.Val.Kind]
		for i := end; i < 42; i++ {
			silent = append(silent, i)
		}
		for _, i := range silent {
			for _, b := range []string{"\x01", " ", "\x80", "\xff"} {
				expectNone(t, put(s, i, b))
			}
		}
	}
}

func TestBytesTooGreat(t *testing.T) {
	living, gone, counter, bits := bytesOf(of("key", reg(5, 2, "abc"))), bytesOf(of("key", dead(5, 2))), bytesOf(of("key", count(full(3), full(4)))), bytesOf(of("key", flags(9)))
	for b := range 256 {
		c := string([]byte{byte(b)})
		for _, s := range []string{living, gone, counter, bits} {
			if b == 0 || b > 3 {
				expectNone(t, put(s, 0, c))
			}
			if b != 3 {
				expectKey(t, put(s, 1, c), b)
			}
		}
		if b > 7 {
			expectNone(t, put(living, 14, c))
			expectNone(t, put(gone, 14, c))
		}
		if b > 1 {
			expectNone(t, put(living, 15, c))
			expectNone(t, put(gone, 15, c))
		}
		if b > 127 {
			expectNone(t, put(living, 13, c))
			expectNone(t, put(gone, 13, c))
		}
		if b < 3 || b > 8 {
			expectNone(t, put(living, 16, c))
		}
		if b > 0 {
			expectNone(t, put(gone, 16, c))
		}
	}
	expectNone(t, put(living, 15, "\x01"))
}

// expectKey holds a text of the bytes "key", and of another length, against what it is: a longer key has zeros.
func expectKey(t *testing.T, s string, size int) {
	t.Helper()
	if size < 3 || size > 8 {
		expectNone(t, s)
		return
	}
	if got, no := entry.Get(s); no != api.OK || got.Key != "key"+zeros(size-3) {
		t.Errorf("Get(%q): %v, %v", s, got, no)
	}
}

// Of each entry's bytes each one is made each other one: nothing is got but what is put.
func TestEachByte(t *testing.T) {
	var all []api.Entry
	for _, v := range values() {
		all = append(all, of("key", v))
	}
	for _, key := range []string{"a", "a\x00", "\x00", "12345678", zeros(8)} {
		all = append(all, of(key, flags(3)), of(key, reg(1, 2, "x")))
	}
	for _, e := range all {
		s := []byte(bytesOf(e))
		for i := range s {
			was := s[i]
			for b := range 256 {
				s[i] = byte(b)
				holdBytes(t, string(s))
			}
			s[i] = was
		}
	}
}

func TestLess(t *testing.T) {
	ordered := []string{"", "\x00", "\x00\x00", "\x00a", "10", "9", "A", "a", "a\x00", "a\x00b", "aa", "ab", "abcdefg", "abcdefgh", "abcdefghi", "b", "\x7f", "\x80", "é", "\xed\xa0\x80", "\xff", "\xff\xff"}
	var all []api.Entry
	for _, v := range []api.Value{{Kind: math.MinInt}, {Kind: -1}, {}, reg(9, 7, "z"), count(full(9), full(1)), flags(1), {Kind: 4}, {Kind: 1 << 32}, {Kind: math.MaxInt}} {
		for _, key := range ordered {
			all = append(all, of(key, v))
		}
	}
	for i, a := range all {
		for k, b := range all {
			if got := entry.Less(a, b); got != (i < k) {
				t.Errorf("Less(%v, %v): %v", a, b, got)
			}
		}
	}
}

// What else a value has is no part of its name.
func TestLessOfOneName(t *testing.T) {
	for _, a := range values() {
		for _, b := range values() {
			if got := entry.Less(of("k", a), of("k", b)); got != (a.Kind < b.Kind) {
				t.Errorf("Less(%v, %v): %v", a, b, got)
			}
			if a.Kind == b.Kind && (!entry.Less(of("j", a), of("k", b)) || entry.Less(of("k", a), of("j", b))) {
				t.Errorf("keys do not tell %v and %v apart", a, b)
			}
		}
	}
}

func TestJoin(t *testing.T) {
	for _, x := range []struct{ a, b, want api.Value }{
		{reg(3, 1, ""), reg(3, 2, ""), reg(3, 2, "")},
		{reg(3, 7, "zzzzzzzz"), reg(4, 0, ""), reg(4, 0, "")},
		{reg(3, 1, "zz"), dead(3, 1), dead(3, 1)},
		{reg(3, 1, "ring"), reg(3, 1, "rings"), reg(3, 1, "rings")},
		{reg(0, 0, ""), dead(greatest, 7), dead(greatest, 7)},
		{count(noughts(0, 5), noughts()), count(noughts(), noughts(0, 7)), count(noughts(0, 5), noughts(0, 7))},
		{count([]int{1, 2, 3, 4, 5, 6, 7, 8}, full(9)), count([]int{8, 7, 6, 5, 4, 3, 2, 1}, noughts(4, 65535)), count([]int{8, 7, 6, 5, 5, 6, 7, 8}, []int{9, 9, 9, 9, 65535, 9, 9, 9})},
		{flags(5), flags(6), flags(7)},
		{flags(1<<32 - 1), flags(highHalf), flags(math.MaxUint64)},
		{flags(0), flags(0), flags(0)},
	} {
		for _, key := range keys() {
			for _, y := range [][2]api.Value{{x.a, x.b}, {x.b, x.a}, {x.want, x.want}, {x.a, x.want}} {
				if got, no := entry.Join(of(key, y[0]), of(key, y[1])); no != api.OK || !alike(got, of(key, x.want)) {
					t.Errorf("Join(%v, %v) of %q: %v, %v, not %v", y[0], y[1], key, got, no, x.want)
				}
			}
		}
	}
}

func expectNoJoin(t *testing.T, a, b api.Entry, want api.Errno) {
	t.Helper()
	for _, x := range [][2]api.Entry{{a, b}, {b, a}} {
		if got, no := entry.Join(x[0], x[1]); no != want || !alike(got, api.Entry{}) {
			t.Fatalf("Join(%v, %v): %v, %v, not %v", x[0], x[1], got, no, want)
		}
	}
}

// Two kinds with one key, and one kind with two keys, are two names.
func TestJoinOfTwoNames(t *testing.T) {
	some := []api.Value{reg(3, 1, "a"), dead(3, 1), count(noughts(), full(1)), flags(0), flags(7)}
	for _, a := range some {
		for _, b := range some {
			for _, x := range keys() {
				for _, y := range keys() {
					if a.Kind != b.Kind || x != y {
						expectNoJoin(t, of(x, a), of(y, b), api.ErrKind)
					}
				}
			}
		}
	}
}

// R1: what is none is told ahead of two names, on either side.
func TestJoinRefuses(t *testing.T) {
	for _, bad := range wrongs() {
		for _, e := range []api.Entry{of("a", reg(1, 1, "a")), of("a", dead(1, 1)), of("12345678", count(noughts(), full(1))), of("\x00", flags(0)), of("other", flags(0)), {}, of("", flags(1)), of("123456789", reg(1, 1, "")), bad} {
			expectNoJoin(t, bad, e, api.ErrForm)
		}
	}
}

// parts are alike, but for one part each, and entries or none alike.
func parts() []api.Entry {
	base := of("a", api.Value{Kind: 2, Time: 1, Node: 2, Text: "a", Plus: full(1), Minus: full(2), Flags: 3})
	out := []api.Entry{{}, base}
	for _, change := range []func(*api.Entry){
		func(e *api.Entry) { e.Key = "b" },
		func(e *api.Entry) { e.Key = "" },
		func(e *api.Entry) { e.Key = "a\x00" },
		func(e *api.Entry) { e.Key = "123456789" },
		func(e *api.Entry) { e.Val.Kind = 3 },
		func(e *api.Entry) { e.Val.Kind = -2 },
		func(e *api.Entry) { e.Val.Time = 1<<32 + 1 },
		func(e *api.Entry) { e.Val.Node = -2 },
		func(e *api.Entry) { e.Val.Dead = true },
		func(e *api.Entry) { e.Val.Text = "a\x00" },
		func(e *api.Entry) { e.Val.Plus[7] = 0 },
		func(e *api.Entry) { e.Val.Plus = e.Val.Plus[:7] },
		func(e *api.Entry) { e.Val.Minus[0] = 3 },
		func(e *api.Entry) { e.Val.Minus = append(e.Val.Minus, 0) },
		func(e *api.Entry) { e.Val.Plus = nil },
		func(e *api.Entry) { e.Val.Flags = 3 + 1<<63 },
	} {
		e := twin(base)
		change(&e)
		out = append(out, e)
	}
	return out
}

func TestSame(t *testing.T) {
	all := slices.Concat(parts(), goods(), wrongs())
	for _, a := range all {
		for _, b := range all {
			if got := entry.Same(a, b); got != alike(a, b) {
				t.Fatalf("Same(%v, %v): %v", a, b, got)
			}
		}
	}
	for i, a := range parts() {
		for k, b := range parts() {
			if entry.Same(a, twin(b)) != (i == k) {
				t.Errorf("%d and %d: %v", i, k, i != k)
			}
		}
	}
}

// R5: a list without things may be nil or empty: it is never told which.
func TestListsWithoutThings(t *testing.T) {
	for _, e := range []api.Entry{of("a", reg(3, 1, "x")), of("a", dead(3, 1)), of("a", flags(9))} {
		bare, empty := e, twin(e)
		x, no := entry.Put(bare)
		y, other := entry.Put(empty)
		if no != api.OK || other != api.OK || x != y || !entry.Same(bare, empty) || !entry.Same(empty, bare) {
			t.Errorf("%v: %q, %v, and %q, %v", e, x, no, y, other)
		}
		if got, no := entry.Join(bare, empty); no != api.OK || !alike(got, e) {
			t.Errorf("Join(%v, %v): %v, %v", bare, empty, got, no)
		}
	}
}

// spoil writes over all that can be reached of an entry's lists, behind their ends, too.
func spoil(e api.Entry) {
	for _, list := range [][]int{e.Val.Plus, e.Val.Minus} {
		list = list[:cap(list)]
		for i := range list {
			list[i] = -77
		}
	}
}

// answers are what Get and Join tell of all that is given.
func answers(given []api.Entry) []api.Entry {
	var out []api.Entry
	for _, a := range given {
		s, _ := entry.Put(a)
		got, _ := entry.Get(s)
		out = append(out, got)
		for _, b := range given {
			both, _ := entry.Join(a, b)
			out = append(out, both)
		}
	}
	return out
}

func twins(list []api.Entry) []api.Entry {
	out := make([]api.Entry, len(list))
	for i, e := range list {
		out[i] = twin(e)
	}
	return out
}

// R3, R4: entries are as they were, whatever is asked of them, and whatever is done with what is told; the same call tells the same.
func TestNothingIsShared(t *testing.T) {
	long := make([]int, 16)
	given := append(parts(),
		of("a", count(full(1), full(2))), of("a", count(full(65535), noughts())), of("a", count(long[:8], long[:8])), of("b", count(long[:8], long[8:])), of("a", reg(3, 1, "x")),
		of("a", api.Value{Kind: 1, Plus: long[:0], Minus: long[:0]}), of("a", api.Value{Kind: 1, Time: 3, Plus: long[:0], Minus: long[:0]}), of("a", api.Value{Kind: 3, Plus: long[:0]}), of("a", flags(4)))
	was := twins(given)
	first := answers(given)
	kept := twins(first)
	for _, e := range first {
		spoil(e)
	}
	for i, e := range given {
		entry.Check(e)
		if !alike(e, was[i]) {
			t.Fatalf("%v is %v now", was[i], e)
		}
	}
	if slices.Contains(long, -77) {
		t.Error("what is told reaches into what was given, behind a list's end")
	}
	for i, e := range answers(given) {
		if !alike(e, kept[i]) {
			t.Errorf("answer %d: %v, then %v", i, kept[i], e)
		}
	}
}

// The lists of one answer share nothing, also where those that were given do.
func TestListsOfOneAnswer(t *testing.T) {
	one := full(4)
	a := of("n", count(one, one))
	s, _ := entry.Put(a)
	got, _ := entry.Get(s)
	both, _ := entry.Join(a, a)
	for _, e := range []api.Entry{got, both} {
		e.Val.Plus[0], e.Val.Minus[1] = 1, 2
		plus, minus := full(4), full(4)
		plus[0], minus[1] = 1, 2
		if !alike(e, of("n", count(plus, minus))) || !slices.Equal(one, full(4)) {
			t.Errorf("%v, of %v", e, one)
		}
		if len(append(e.Val.Plus, 99)) != 9 || e.Val.Minus[0] != 4 {
			t.Errorf("one list grows into the other: %v", e)
		}
	}
	if again, no := entry.Get(s); no != api.OK || !alike(again, of("n", count(full(4), full(4)))) {
		t.Errorf("a second Get: %v, %v", again, no)
	}
}

// isEntry is what the document says of an entry.
func isEntry(e api.Entry) bool {
	v, rest := e.Val, twin(e)
	switch v.Kind {
	case 1:
		if v.Time < 0 || v.Time > greatest || v.Node < 0 || v.Node > 7 || len(v.Text) > 8 || v.Dead && len(v.Text) > 0 {
			return false
		}
		rest.Val.Time, rest.Val.Node, rest.Val.Dead, rest.Val.Text = 0, 0, false, ""
	case 2:
		for _, row := range [][]int{v.Plus, v.Minus} {
			if len(row) != 8 || slices.Min(row) < 0 || slices.Max(row) > 65535 {
				return false
			}
		}
		rest.Val.Plus, rest.Val.Minus = nil, nil
	case 3:
		rest.Val.Flags = 0
	default:
		return false
	}
	return len(e.Key) >= 1 && len(e.Key) <= 8 && alike(rest, of(e.Key, api.Value{Kind: v.Kind}))
}

// joinOf is what the document says of the values of two entries of one name.
func joinOf(a, b api.Value) api.Value {
	switch {
	case a.Kind == 3:
		return flags(a.Flags | b.Flags)
	case a.Kind == 2:
		out := count(noughts(), noughts())
		for i := range 8 {
			out.Plus[i], out.Minus[i] = max(a.Plus[i], b.Plus[i]), max(a.Minus[i], b.Minus[i])
		}
		return out
	}
	behind := a.Text > b.Text
	if a.Dead != b.Dead {
		behind = a.Dead
	}
	if a.Node != b.Node {
		behind = a.Node > b.Node
	}
	if a.Time != b.Time {
		behind = a.Time > b.Time
	}
	if behind {
		return a
	}
	return b
}

// holdAll holds every call of two against the document's words.
func holdAll(t *testing.T, a, b api.Entry) {
	t.Helper()
	for _, e := range []api.Entry{a, b} {
		want, bytes := api.ErrForm, ""
		if isEntry(e) {
			want, bytes = api.OK, bytesOf(e)
		}
		if no := entry.Check(e); no != want {
			t.Fatalf("Check(%v): %v", e, no)
		}
		if s, no := entry.Put(e); no != want || s != bytes {
			t.Fatalf("Put(%v): %q, %v, not %q", e, s, no, bytes)
		}
	}
	oneName := a.Val.Kind == b.Val.Kind && a.Key == b.Key
	ahead := a.Val.Kind < b.Val.Kind || a.Val.Kind == b.Val.Kind && strings.Compare(a.Key, b.Key) < 0
	if entry.Less(a, b) != ahead || entry.Less(b, a) != (!ahead && !oneName) {
		t.Fatalf("Less(%v, %v): %v, and %v", a, b, entry.Less(a, b), entry.Less(b, a))
	}
	if entry.Same(a, b) != alike(a, b) || entry.Same(b, a) != alike(a, b) {
		t.Fatalf("Same(%v, %v): %v", a, b, entry.Same(a, b))
	}
	switch {
	case !isEntry(a) || !isEntry(b):
		expectNoJoin(t, a, b, api.ErrForm)
	case !oneName:
		expectNoJoin(t, a, b, api.ErrKind)
	default:
		want := of(a.Key, joinOf(a.Val, b.Val))
		if got, no := entry.Join(a, b); no != api.OK || !alike(got, want) {
			t.Fatalf("Join(%v, %v): %v, %v, not %v", a, b, got, no, want)
		}
	}
}

func TestAllPairs(t *testing.T) {
	all := slices.Concat(goods(), wrongs(), parts())
	for _, a := range all {
		for _, b := range all {
			holdAll(t, a, b)
		}
	}
}

// rowOf makes numbers of bytes.
func rowOf(bytes []byte, scale int) []int {
	var out []int
	for _, b := range bytes {
		out = append(out, int(b)*scale)
	}
	return out
}

func FuzzAllCalls(f *testing.F) {
	f.Add(1, 3, 1, false, "a", "b", []byte{}, []byte{}, uint64(0), 1, bytesOf(of("a", reg(258, 3, "hi"))), 17)
	f.Add(2, 0, 0, false, "n", "n", []byte("abcdefgh"), []byte("ponmlkji"), uint64(0), 257, bytesOf(of("n", count(full(65535), full(1)))), 41)
	f.Add(3, 0, 0, false, "k", "", []byte{}, []byte{}, uint64(5), 1, bytesOf(of("k", flags(5))), 10)
	f.Add(4, -1, 8, true, "123456789", "x", []byte{0}, []byte{1}, uint64(1<<63), -1, bytesOf(of("12345678", dead(greatest, 7))), 16)
	f.Fuzz(func(t *testing.T, kind, time, node int, isDead bool, key, text string, rows, others []byte, bits uint64, scale int, s string, cut int) {
		plus, minus := rowOf(rows, scale), rowOf(others, scale)
		short := key[:min(len(key), 8)]
		near := []api.Entry{
			of(key, api.Value{Kind: kind, Time: time, Node: node, Dead: isDead, Text: text, Plus: plus, Minus: minus, Flags: bits}),
			of(short, reg(time, node, text)), of(short, reg(time&greatest, node&7, text[:min(len(text), 8)])), of(short, dead(time&greatest, node&7)), of(text, reg(time&greatest, node&7, "")),
			of(key, count(plus, minus)), of(short, count(minus, plus)), of(key, flags(bits)), of(short, flags(^bits>>3)), of(text, flags(bits)),
		}
		for _, x := range near {
			for _, y := range near {
				holdAll(t, x, y)
			}
			if isEntry(x) {
				holdBytes(t, bytesOf(x))
				holdBytes(t, put(bytesOf(x), cut&31, string([]byte{byte(scale)})))
			}
		}
		holdBytes(t, s)
		holdBytes(t, (s + zeros(42))[:42])
		holdBytes(t, s[:max(0, min(len(s), cut))])
	})
}
