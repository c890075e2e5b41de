package page_test

import (
	"hash/crc32"
	"math"
	"reflect"
	"slices"
	"strings"
	"testing"

	"ouroboros/api"
	"ouroboros/flash"
	"ouroboros/page"
)

const maxPayload = 4000

// noSizes are lengths of which no payload has a record.
var noSizes = []int{math.MinInt, -4001, -5, -4, -3, -1, maxPayload + 1, maxPayload + 2, 1 << 32, 1 << 62, math.MaxInt}

func ones(n int) string { return strings.Repeat("\xff", n) }

// turnedAll is s with all bits turned.
func turnedAll(s string) string {
	out := []byte(s)
	for i := range out {
		out[i] = 255 - out[i]
	}
	return string(out)
}

// recordOf is what the document says of a record, word by word.
func recordOf(payload string) string {
	sum := crc32.ChecksumIEEE([]byte(payload))
	sealed := payload + string([]byte{byte(sum), byte(sum >> 8), byte(sum >> 16), byte(sum >> 24)})
	return sealed + turnedAll(sealed)
}

// sizeOf is how many bytes a place has for payloads of n bytes; 0, if there are none.
func sizeOf(n int) int {
	if n < 0 || n > maxPayload {
		return 0
	}
	return 2*n + 8
}

// told is all that the calls tell of a page.
type told struct {
	slots, records  []string
	room, bad, next int
}

// tellOf is what the document says of a page, place by place.
func tellOf(s string, n int) told {
	var out told
	size := sizeOf(n)
	if size == 0 {
		return out
	}
	for len(s) >= size {
		place := s[:size]
		out.room++
		out.slots = append(out.slots, place)
		if place != ones(size) {
			out.next = out.room
			if recordOf(place[:n]) == place {
				out.records = append(out.records, place[:n])
			} else {
				out.bad++
			}
		}
		s = s[size:]
	}
	return out
}

// check holds all calls of a page against want, and Slot at places that there are not.
func check(t *testing.T, s string, n int, want told) {
	t.Helper()
	if got := page.Room(s, n); got != want.room {
		t.Fatalf("Room(%q, %d): %d, not %d", s, n, got, want.room)
	}
	if got := page.Records(s, n); !slices.Equal(got, want.records) {
		t.Fatalf("Records(%q, %d): %q, not %q", s, n, got, want.records)
	}
	if got := page.Bad(s, n); got != want.bad {
		t.Fatalf("Bad(%q, %d): %d, not %d", s, n, got, want.bad)
	}
	if got := page.Next(s, n); got != want.next {
		t.Fatalf("Next(%q, %d): %d, not %d", s, n, got, want.next)
	}
	for i, slot := range want.slots {
		if got := page.Slot(s, n, i); got != slot {
			t.Fatalf("Slot(%q, %d, %d): %q, not %q", s, n, i, got, slot)
		}
	}
	for _, i := range []int{math.MinInt, -1 << 61, -2, -1, want.room, want.room + 1, len(s), 1 << 60, 1 << 61, 1 << 62, math.MaxInt} {
		if i < 0 || i >= want.room {
			if got := page.Slot(s, n, i); got != "" {
				t.Fatalf("Slot(%q, %d, %d): %q, and there is no such place", s, n, i, got)
			}
		}
	}
}

func TestTheChaptersExample(t *testing.T) {
	check(t, ones(20), 1, told{slots: []string{ones(10), ones(10)}, room: 2})
}

func TestKnownPage(t *testing.T) {
	a, b := "a\x43\xbe\xb7\xe8\x9e\xbc\x41\x48\x17", "\x00\x8d\xef\x02\xd2\xff\x72\x10\xfd\x2d"
	check(t, a+ones(10)+"no record."+b+ones(10)+"tail", 1, told{
		slots:   []string{a, ones(10), "no record.", b, ones(10)},
		records: []string{"a", "\x00"},
		room:    5, bad: 1, next: 4,
	})
	check(t, "\x00\x00\x00\x00\xff\xff\xff\xff", 0, told{slots: []string{"\x00\x00\x00\x00\xff\xff\xff\xff"}, records: []string{""}, room: 1, next: 1})
}

func TestRoom(t *testing.T) {
	for _, x := range []struct{ length, n, want int }{
		{0, 0, 0}, {0, 1, 0}, {0, maxPayload, 0},
		{1, 0, 0}, {7, 0, 0}, {8, 0, 1}, {9, 0, 1}, {15, 0, 1}, {16, 0, 2},
		{9, 1, 0}, {10, 1, 1}, {19, 1, 1}, {20, 1, 2}, {21, 1, 2},
		{91, 42, 0}, {92, 42, 1}, {551, 42, 5}, {552, 42, 6}, {8192, 42, 89},
		{8007, maxPayload, 0}, {8008, maxPayload, 1}, {8192, maxPayload, 1}, {16015, maxPayload, 1}, {16016, maxPayload, 2},
		{8005, maxPayload - 1, 0}, {8006, maxPayload - 1, 1}, {100009, 1, 10000},
	} {
		for _, fill := range []string{"\x00", "\xff", "x"} {
			if got := page.Room(strings.Repeat(fill, x.length), x.n); got != x.want {
				t.Errorf("Room of %d bytes for payloads of %d: %d, not %d", x.length, x.n, got, x.want)
			}
		}
	}
}

// A length of which there are no records has no places, whatever the page is.
func TestLengthsWithoutPlaces(t *testing.T) {
	for _, s := range []string{"", "x", ones(20), strings.Repeat("\x00", 100), recordOf("") + recordOf(""), ones(16384)} {
		for _, n := range noSizes {
			check(t, s, n, told{})
			for _, i := range []int{0, 1, 2} {
				if got := page.Slot(s, n, i); got != "" {
					t.Errorf("Slot of %d bytes, payloads of %d, place %d: %q", len(s), n, i, got)
				}
			}
		}
	}
}

func TestPagesShorterThanAPlace(t *testing.T) {
	for _, payload := range []string{"", "a", "ring", strings.Repeat("x", 42)} {
		made := recordOf(payload)
		for cut := range len(made) {
			for _, s := range []string{made[:cut], made[len(made)-cut:], ones(cut), strings.Repeat("\x00", cut)} {
				check(t, s, len(payload), told{})
			}
		}
	}
}

// kindsOf are places for payloads of 2 bytes: clear ones, records, and all that is neither.
func kindsOf() []string {
	left, right := recordOf("ab"), recordOf("\xff\xff")
	return []string{
		ones(12), left, right, recordOf("\x00\x00"), "torntorntorn", strings.Repeat("\x00", 12),
		left[:6] + right[6:], left[:11] + "\xff", ones(11) + "\xfe", "\x7f" + ones(11), recordOf("a") + "\xff\xff", turnedAll(left),
	}
}

// tails are bytes behind the last whole place for payloads of 2 bytes.
func tails() []string {
	return []string{"", "\xff", "\x00", ones(11), strings.Repeat("\x00", 11), recordOf("cd")[:11], recordOf("")}
}

func TestAllPagesOfThreePlaces(t *testing.T) {
	kinds := kindsOf()
	for _, a := range kinds {
		for _, b := range kinds {
			for _, c := range kinds {
				for _, tail := range tails() {
					s := a + b + c + tail
					check(t, s, 2, tellOf(s, 2))
				}
			}
		}
	}
}

// The model that the other tests hold the calls against is held against what is known of each kind of place.
func TestKindsOfPlaces(t *testing.T) {
	for i, place := range kindsOf() {
		want := told{slots: []string{place}, room: 1, next: 1}
		switch i {
		case 0:
			want.next = 0
		case 1, 2, 3:
			want.records = []string{place[:2]}
		default:
			want.bad = 1
		}
		for _, tail := range tails() {
			check(t, place+tail, 2, want)
		}
	}
}

func TestPagesAllClear(t *testing.T) {
	for _, n := range []int{0, 1, 2, 42, 100, maxPayload} {
		for _, length := range []int{1, 8, 92, 1000, 8192} {
			check(t, ones(length), n, tellOf(ones(length), n))
			if page.Next(ones(length), n) != 0 || page.Bad(ones(length), n) != 0 || len(page.Records(ones(length), n)) != 0 {
				t.Errorf("%d erased bytes are not clear for payloads of %d", length, n)
			}
		}
	}
}

// One bit that is not set makes a clear place bad, and is the last that is not clear; behind the places it is nothing.
func TestOneBitThatIsCleared(t *testing.T) {
	const length = 45
	for at := range length {
		for bit := range 8 {
			s := []byte(ones(length))
			s[at] ^= 1 << bit
			bad, next := 0, 0
			if at < 40 {
				bad, next = 1, at/10+1
			}
			if page.Bad(string(s), 1) != bad || page.Next(string(s), 1) != next || len(page.Records(string(s), 1)) != 0 {
				t.Errorf("bit %d of byte %d cleared: bad %d, next %d, records %q", bit, at, page.Bad(string(s), 1), page.Next(string(s), 1), page.Records(string(s), 1))
			}
		}
	}
}

// One bit that is turned makes a record bad, and leaves the others.
func TestOneBitThatIsTurned(t *testing.T) {
	whole := recordOf("ab") + recordOf("cd") + recordOf("ef")
	for i := range 8 * len(whole) {
		s := []byte(whole)
		s[i/8] ^= 1 << (i % 8)
		left := slices.Delete([]string{"ab", "cd", "ef"}, i/96, i/96+1)
		if got := page.Records(string(s), 2); !slices.Equal(got, left) || page.Bad(string(s), 2) != 1 || page.Next(string(s), 2) != 3 {
			t.Errorf("bit %d turned: records %q, bad %d, next %d", i, got, page.Bad(string(s), 2), page.Next(string(s), 2))
		}
	}
}

// A record that does not begin where a place does is none, nor is one of another length.
func TestRecordsBesideTheirPlaces(t *testing.T) {
	for shift := 1; shift < 12; shift++ {
		s := ones(shift) + recordOf("ab") + recordOf("cd") + ones(12-shift)
		check(t, s, 2, told{slots: []string{s[:12], s[12:24], s[24:]}, room: 3, bad: 3, next: 3})
	}
	check(t, recordOf("ab")+recordOf("cd"), 3, tellOf(recordOf("ab")+recordOf("cd"), 3))
	if got := page.Records(recordOf("ab")+recordOf("cd"), 3); len(got) != 0 {
		t.Errorf("records of 2 bytes are read as ones of 3: %q", got)
	}
}

// Equal payloads are told as often as they stand there, in order; a payload that is a record itself is told as it is.
func TestRecordsInOrder(t *testing.T) {
	s := recordOf("b") + recordOf("a") + recordOf("b") + ones(10) + recordOf("a") + recordOf("\xff")
	if got := page.Records(s, 1); !slices.Equal(got, []string{"b", "a", "b", "a", "\xff"}) {
		t.Errorf("Records: %q", got)
	}
	nested := recordOf(recordOf("a"))
	check(t, nested, 10, told{slots: []string{nested}, records: []string{recordOf("a")}, room: 1, next: 1})
}

// device is one of 3 pages of 29 bytes, that have 2 places for payloads of 2 bytes, and a tail.
func device() api.Flash {
	return api.Flash{
		Pages: []string{ones(29), recordOf("ab") + ones(17), recordOf("ab") + recordOf("cd") + "\xffxyz\xff"},
		Wear:  []int{0, 7, api.MaxNum}, Fuse: -1,
	}
}

func awake(fuse int, torn string) api.Flash {
	f := device()
	f.Fuse, f.Torn = fuse, torn
	return f
}

func died(fuse int) api.Flash {
	f := awake(fuse, "\x3c")
	f.Dead = true
	return f
}

// twin is another device that is alike, and shares nothing.
func twin(f api.Flash) api.Flash {
	f.Pages, f.Wear = append([]string{}, f.Pages...), append([]int{}, f.Wear...)
	return f
}

// alike holds two devices against each other by the library: lists without things are alike.
func alike(a, b api.Flash) bool { return reflect.DeepEqual(twin(a), twin(b)) }

func expect(t *testing.T, f api.Flash, at int, payload string, want api.Flash, wantErr api.Errno) {
	t.Helper()
	if got, e := page.Append(f, at, payload); e != wantErr || !alike(got, want) {
		t.Fatalf("Append(%v, %d, %q): %v, %v, not %v, %v", f, at, payload, got, e, want, wantErr)
	}
}

func TestAppend(t *testing.T) {
	for _, fuse := range []int{math.MinInt, -2, -1, 1, 2, math.MaxInt} {
		for _, torn := range []string{"", "\x0f", "\xff"} {
			f := awake(fuse, torn)
			first, second := twin(f), twin(f)
			if fuse > 0 {
				first.Fuse, second.Fuse = fuse-1, fuse-1
			}
			first.Pages[0] = recordOf("cd") + ones(17)
			second.Pages[1] = recordOf("ab") + recordOf("cd") + ones(5)
			expect(t, f, 0, "cd", first, api.OK)
			expect(t, f, 1, "cd", second, api.OK)
			expect(t, f, 2, "cd", f, api.ErrFull)
		}
	}
}

// Of one page records of other lengths are appended where by that length all is clear from there on.
func TestAppendOfOtherLengths(t *testing.T) {
	f := device()
	for n, at := range map[int]int{0: 16, 1: -1, 2: 12, 3: 14, 4: -1, 10: -1, 11: -1, maxPayload: -1} {
		payload := strings.Repeat("p", n)
		if at < 0 {
			expect(t, f, 1, payload, f, api.ErrFull)
			continue
		}
		want := twin(f)
		made := recordOf(payload)
		want.Pages[1] = f.Pages[1][:at] + made + f.Pages[1][at+len(made):]
		expect(t, f, 1, payload, want, api.OK)
	}
}

func TestAppendTillFull(t *testing.T) {
	for _, x := range []struct{ size, n int }{{8, 0}, {9, 0}, {17, 0}, {100, 0}, {10, 1}, {99, 1}, {276, 42}, {8192, 42}, {8008, maxPayload}, {8192, maxPayload}, {8192, 2000}} {
		f, _ := flash.New(3, x.size)
		var all []string
		for i := range x.size / sizeOf(x.n) {
			payload := strings.Repeat(string([]byte{byte(255 - 7*i)}), x.n)
			was := twin(f)
			var e api.Errno
			if f, e = page.Append(f, 1, payload); e != api.OK {
				t.Fatalf("payload %d of %d bytes on a page of %d: %v", i, x.n, x.size, e)
			}
			all = append(all, payload)
			want := was
			at := i * sizeOf(x.n)
			want.Pages[1] = was.Pages[1][:at] + recordOf(payload) + was.Pages[1][at+sizeOf(x.n):]
			if !alike(f, want) || !slices.Equal(page.Records(f.Pages[1], x.n), all) {
				t.Fatalf("payload %d of %d bytes on a page of %d is not the last record", i, x.n, x.size)
			}
		}
		if len(all) != page.Room(f.Pages[1], x.n) || page.Next(f.Pages[1], x.n) != len(all) || page.Bad(f.Pages[1], x.n) != 0 {
			t.Errorf("a full page of %d: room %d, next %d, bad %d", x.size, page.Room(f.Pages[1], x.n), page.Next(f.Pages[1], x.n), page.Bad(f.Pages[1], x.n))
		}
		expect(t, f, 1, strings.Repeat("z", x.n), f, api.ErrFull)
		if !flash.Free(f, 0) || !flash.Free(f, 2) {
			t.Error("other pages are written as well")
		}
	}
}

// What is appended is the last one of the records, the others stay, whatever the page was; what is full stays.
func TestWhatIsAppendedIsTheLast(t *testing.T) {
	kinds := kindsOf()
	for _, a := range kinds {
		for _, b := range kinds {
			for _, c := range kinds {
				for _, tail := range tails()[:4] {
					s := a + b + c + tail
					f := api.Flash{Pages: []string{ones(len(s)), s}, Wear: []int{1, 2}, Fuse: -1}
					was := tellOf(s, 2)
					if was.next == 3 {
						expect(t, f, 1, "zz", f, api.ErrFull)
						continue
					}
					at := 12 * was.next
					want := twin(f)
					want.Pages[1] = s[:at] + recordOf("zz") + s[at+12:]
					expect(t, f, 1, "zz", want, api.OK)
					is := want.Pages[1]
					if got := page.Records(is, 2); !slices.Equal(got, append(was.records, "zz")) || page.Bad(is, 2) != was.bad || page.Next(is, 2) != was.next+1 {
						t.Errorf("%q behind an Append: records %q, bad %d, next %d", s, got, page.Bad(is, 2), page.Next(is, 2))
					}
				}
			}
		}
	}
}

// A page without room for one record is full, also for the longest payload; one byte more is no payload.
func TestAppendWithoutRoom(t *testing.T) {
	for _, x := range []struct {
		size, n int
		want    api.Errno
	}{
		{1, 0, api.ErrFull}, {7, 0, api.ErrFull}, {8, 0, api.OK}, {9, 1, api.ErrFull}, {10, 1, api.OK},
		{8007, maxPayload, api.ErrFull}, {8008, maxPayload, api.OK}, {1, maxPayload, api.ErrFull},
		{1, maxPayload + 1, api.ErrArg}, {8192, maxPayload + 1, api.ErrArg}, {8192, 5000, api.ErrArg}, {8192, 100000, api.ErrArg},
	} {
		f, _ := flash.New(1, x.size)
		got, e := page.Append(f, 0, strings.Repeat("x", x.n))
		if e != x.want {
			t.Errorf("%d bytes on a page of %d: %v, not %v", x.n, x.size, e, x.want)
		}
		if e != api.OK && !alike(got, f) {
			t.Errorf("%d bytes on a page of %d: the device is changed", x.n, x.size)
		}
	}
}

// R1: what is wrong is told ahead of a full page, a full page ahead of a death; what is refused does not die.
func TestAppendRefuses(t *testing.T) {
	long := strings.Repeat("x", maxPayload+1)
	for _, f := range []api.Flash{device(), awake(0, "\xff"), awake(3, ""), died(0), died(-1), died(5)} {
		for _, at := range []int{math.MinInt, -3, -1, 3, 4, 6, math.MaxInt} {
			for _, payload := range []string{"", "ab", strings.Repeat("x", maxPayload), long} {
				expect(t, f, at, payload, f, api.ErrArg)
			}
		}
		for at := range 3 {
			expect(t, f, at, long, f, api.ErrArg)
			expect(t, f, at, strings.Repeat("x", maxPayload), f, api.ErrFull)
		}
		expect(t, f, 2, "ab", f, api.ErrFull)
	}
}

// wrongs are devices that may not be, each by one part.
func wrongs() []api.Flash {
	var out []api.Flash
	for _, spoil := range []func(*api.Flash){
		func(f *api.Flash) { *f = api.Flash{} },
		func(f *api.Flash) { f.Pages, f.Wear = nil, nil },
		func(f *api.Flash) { f.Pages, f.Wear = slices.Repeat([]string{ones(29)}, 7), make([]int, 7) },
		func(f *api.Flash) { f.Pages = []string{"", "", ""} },
		func(f *api.Flash) { f.Pages[2] = f.Pages[2][:28] },
		func(f *api.Flash) { f.Pages[0] += "\xff" },
		func(f *api.Flash) { f.Pages, f.Wear = []string{ones(8193)}, []int{0} },
		func(f *api.Flash) { f.Wear = nil },
		func(f *api.Flash) { f.Wear = f.Wear[:2] },
		func(f *api.Flash) { f.Wear = append(f.Wear, 0) },
		func(f *api.Flash) { f.Wear[2] = -1 },
		func(f *api.Flash) { f.Wear[0] = api.MaxNum + 1 },
		func(f *api.Flash) { f.Torn = strings.Repeat("\xff", 65) },
	} {
		for _, f := range []api.Flash{device(), awake(0, "\xff"), died(0)} {
			spoil(&f)
			out = append(out, f)
		}
	}
	return out
}

func TestAppendToWrongDevices(t *testing.T) {
	for _, f := range wrongs() {
		for _, at := range []int{-1, 0, 1, 2, 3, 7} {
			for _, payload := range []string{"", "ab", strings.Repeat("x", 42), strings.Repeat("x", maxPayload+1)} {
				expect(t, f, at, payload, f, api.ErrArg)
			}
		}
	}
}

func TestAppendToTheDead(t *testing.T) {
	for _, fuse := range []int{math.MinInt, -1, 0, 1, math.MaxInt} {
		f := died(fuse)
		for _, payload := range []string{"", "ab", "abc"} {
			expect(t, f, 0, payload, f, api.ErrDead)
			expect(t, f, 1, payload, f, api.ErrDead)
		}
	}
}

// torns are an empty one, short ones, and the longest ones.
func torns() []string {
	return []string{"", "\x00", "\xff", "\x0f", "\xf0", "\xa5\x3c", "\x00\xff", "\xff\x00\x00", "\x01\x02\x04\x08\x10\x20\x40", strings.Repeat("\x5a", 63) + "\x00", strings.Repeat("\x9c\x71", 32)}
}

// tornOver is what of a clear place is left where just those bits are cleared that torn has: byte i of a page by its byte i, going round.
func tornOver(made string, at int, torn string) string {
	out := []byte(ones(len(made)))
	for i := range out {
		if len(torn) > 0 {
			out[i] &^= torn[(at+i)%len(torn)] &^ made[i]
		}
	}
	return string(out)
}

// A device that dies while it appends has the record, or a bad place, or a clear one; the others stay.
func TestAppendThatIsTorn(t *testing.T) {
	for _, torn := range torns() {
		for _, payload := range []string{"cd", "\x00\x00", "\xff\xff"} {
			for at, before := range []int{0, 1} {
				f := awake(0, torn)
				want := twin(f)
				was := f.Pages[at]
				left := tornOver(recordOf(payload), 12*before, torn)
				want.Pages[at], want.Dead = was[:12*before]+left+was[12*before+12:], true
				expect(t, f, at, payload, want, api.ErrDead)
				got, _ := page.Append(f, at, payload)
				check(t, got.Pages[at], 2, tellOf(want.Pages[at], 2))
				if records := page.Records(got.Pages[at], 2); !slices.Equal(records[:before], page.Records(was, 2)) {
					t.Errorf("torn by %q: the records %q", torn, records)
				}
				expect(t, got, at, payload, got, lastError(before, left))
			}
		}
	}
}

// lastError is what a second Append to a device that died tells: the page may be full then.
func lastError(before int, left string) api.Errno {
	if before == 1 && left != ones(12) {
		return api.ErrFull
	}
	return api.ErrDead
}

// Behind a torn record there is a bad place; awake again the next one is appended behind it.
func TestAppendBehindATornOne(t *testing.T) {
	f, _ := flash.New(2, 40)
	f, _ = page.Append(f, 1, "ab")
	f, _ = flash.Wake(f, 0, "\x0f\xff")
	f, e := page.Append(f, 1, "cd")
	if e != api.ErrDead || !f.Dead || page.Bad(f.Pages[1], 2) != 1 || page.Next(f.Pages[1], 2) != 2 {
		t.Fatalf("torn: %v, %v", f, e)
	}
	f, _ = flash.Wake(f, -1, "")
	f, e = page.Append(f, 1, "ef")
	if e != api.OK || !slices.Equal(page.Records(f.Pages[1], 2), []string{"ab", "ef"}) || page.Bad(f.Pages[1], 2) != 1 || page.Next(f.Pages[1], 2) != 3 {
		t.Errorf("awake again: %v, %v", f, e)
	}
	expect(t, f, 1, "gh", f, api.ErrFull)
}

// A fuse of n lets n records be appended; one that is refused burns none of it.
func TestFuseOfAppends(t *testing.T) {
	f, _ := flash.New(1, 48)
	f, _ = flash.Wake(f, 2, "")
	for i := range 2 {
		f, _ = page.Append(f, 0, strings.Repeat("x", maxPayload))
		f, _ = page.Append(f, 1, "ab")
		var e api.Errno
		if f, e = page.Append(f, 0, "ab"); e != api.OK || f.Fuse != 1-i || f.Dead {
			t.Errorf("Append %d: %v, %v", i, f, e)
		}
	}
	f, e := page.Append(f, 0, "ab")
	if e != api.ErrDead || !f.Dead || page.Next(f.Pages[0], 2) != 2 || f.Fuse != 0 {
		t.Errorf("Append behind the fuse: %v, %v", f, e)
	}
}

func answers(f api.Flash) []api.Flash {
	var out []api.Flash
	for _, at := range []int{-1, 0, 1, 2, 3} {
		for _, payload := range []string{"", "ab", strings.Repeat("x", 42), strings.Repeat("x", maxPayload+1)} {
			got, _ := page.Append(f, at, payload)
			out = append(out, got)
		}
	}
	return out
}

// R3, R4: a device is as it was, whatever is appended, and whatever is done with what is told; the same call tells the same.
func TestNothingIsShared(t *testing.T) {
	for _, f := range append(wrongs(), device(), awake(0, "\x55"), awake(1, ""), died(0)) {
		was := twin(f)
		first := answers(f)
		var kept []api.Flash
		for _, a := range first {
			kept = append(kept, twin(a))
		}
		for _, a := range first {
			for i := range a.Pages {
				a.Pages[i] = "changed"
			}
			for i := range a.Wear {
				a.Wear[i] = -9
			}
		}
		if !alike(f, was) {
			t.Fatalf("%v is %v now", was, f)
		}
		for i, a := range answers(f) {
			if !alike(a, kept[i]) {
				t.Errorf("call %d of %v: %v, then %v", i, f, kept[i], a)
			}
		}
	}
}

func TestRecordsAreNewEachTime(t *testing.T) {
	s := recordOf("ab") + recordOf("cd")
	first := page.Records(s, 2)
	first[0], first[1] = "xx", "yy"
	check(t, s, 2, told{slots: []string{recordOf("ab"), recordOf("cd")}, records: []string{"ab", "cd"}, room: 2, next: 2})
}

// wantAppend is what the document says of Append: its device and its error.
func wantAppend(f api.Flash, at int, payload string) (api.Flash, api.Errno) {
	n := len(payload)
	out := twin(f)
	if flash.Check(f) != api.OK || at < 0 || at >= len(f.Pages) || sizeOf(n) == 0 {
		return out, api.ErrArg
	}
	was := f.Pages[at]
	is := tellOf(was, n)
	if is.next == is.room {
		return out, api.ErrFull
	}
	if f.Dead {
		return out, api.ErrDead
	}
	from, to := is.next*sizeOf(n), (is.next+1)*sizeOf(n)
	made := recordOf(payload)
	if f.Fuse == 0 {
		out.Dead = true
		out.Pages[at] = was[:from] + tornOver(made, from, f.Torn) + was[to:]
		return out, api.ErrDead
	}
	out.Pages[at] = was[:from] + made + was[to:]
	if f.Fuse > 0 {
		out.Fuse--
	}
	return out, api.OK
}

// P1: whatever is asked, all calls end, none panics, and tell what the document's words tell.
func FuzzAllCalls(f *testing.F) {
	f.Add("", 0, 0, 0, 0, "", "", 0, false)
	f.Add(ones(40), 1, 2, 0, -1, "", "ab", 0, false)
	f.Add(recordOf("ab")+ones(28), 2, 2, 1, 0, "\x0f\xff", "cd", 5, false)
	f.Add(recordOf("ab")+recordOf("cd"), 1, 2, 0, 3, "", "ef", -1, true)
	f.Add(recordOf("a")+ones(16385), 2, maxPayload, 1, math.MinInt, "x", strings.Repeat("x", maxPayload+1), api.MaxNum, false)
	f.Add(recordOf("ring")+"\x00"+ones(60), 1, -1, math.MaxInt, 1, "", "", 0, false)
	f.Fuzz(func(t *testing.T, s string, pages, n, at, fuse int, torn, payload string, wear int, dead bool) {
		for _, length := range []int{n, len(payload), n & 15} {
			check(t, s, length, tellOf(s, length))
			page.Slot(s, length, at)
		}
		dev := api.Flash{Fuse: fuse, Torn: torn, Dead: dead}
		if pages > 0 && pages < 10 {
			size := len(s) / pages
			for i := range pages {
				dev.Pages, dev.Wear = append(dev.Pages, s[i*size:(i+1)*size]), append(dev.Wear, wear)
			}
		}
		for _, to := range []int{at, at & 7} {
			want, e := wantAppend(dev, to, payload)
			expect(t, dev, to, payload, want, e)
		}
	})
}
