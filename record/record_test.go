package record_test

import (
	"hash/crc32"
	"math"
	"math/bits"
	"strings"
	"testing"

	"ouroboros/api"
	"ouroboros/record"
)

const maxPayload = 4000

// mixed is a text of n bytes, all of them kinds of bytes, in no plain order.
func mixed(n int) string {
	out := make([]byte, n)
	for i, r := 0, uint32(n)+7; i < n; i++ {
		r = r*1664525 + 1013904223
		out[i] = byte(r >> 24)
	}
	return string(out)
}

// payloads are the empty one, all single bytes, ones that look like runes, like what is erased and like records, and long ones.
func payloads() []string {
	out := []string{
		"", "ring", "123456789", "\x00\xff", "\xc3\x28\xed\xa0\x80", "é", "\xff\xff\xff\xff", "\x00\x00\x00\x00\xff\xff\xff\xff",
		strings.Repeat("\x00", 42), strings.Repeat("\xff", 42), mixed(41), mixed(42), mixed(1024), mixed(1025), mixed(maxPayload),
	}
	for i := range 256 {
		out = append(out, string([]byte{byte(i)}))
	}
	return out
}

// turnedAll is s with all bits turned.
func turnedAll(s string) string {
	out := []byte(s)
	for i := range out {
		out[i] = 255 - out[i]
	}
	return string(out)
}

// sealed is the payload, and its sum, the lowest byte first.
func sealed(payload string) string {
	sum := crc32.ChecksumIEEE([]byte(payload))
	return payload + string([]byte{byte(sum), byte(sum >> 8), byte(sum >> 16), byte(sum >> 24)})
}

// recordOf is what the document says of a record, word by word.
func recordOf(payload string) string { return sealed(payload) + turnedAll(sealed(payload)) }

// isRecord tells whether s is the record of any payload, by the document's words alone.
func isRecord(s string) bool {
	half := len(s) / 2
	return len(s)%2 == 0 && half >= 4 && recordOf(s[:half-4]) == s
}

func refused(s string) bool {
	got, e := record.Read(s)
	return got == "" && e == api.ErrForm
}

func TestMakeKnownRecords(t *testing.T) {
	for payload, want := range map[string]string{
		"":                 "\x00\x00\x00\x00\xff\xff\xff\xff",
		"a":                "a\x43\xbe\xb7\xe8\x9e\xbc\x41\x48\x17",
		"123456789":        "123456789\x26\x39\xf4\xcb\xce\xcd\xcc\xcb\xca\xc9\xc8\xc7\xc6\xd9\xc6\x0b\x34",
		"\xff\xff\xff\xff": "\xff\xff\xff\xff\xff\xff\xff\xff\x00\x00\x00\x00\x00\x00\x00\x00",
	} {
		if got := record.Make(payload); got != want {
			t.Errorf("Make(%q): %q, not %q", payload, got, want)
		}
		if got, e := record.Read(want); got != payload || e != api.OK {
			t.Errorf("Read(%q): %q, %v, not %q", want, got, e, payload)
		}
	}
}

// What is made is read again, also where the payload is a record itself.
func TestWhatIsMadeIsRead(t *testing.T) {
	for _, payload := range payloads() {
		for range 3 {
			made := record.Make(payload)
			if made != recordOf(payload) {
				t.Errorf("Make of %d bytes: %q", len(payload), made)
			}
			if got, e := record.Read(made); got != payload || e != api.OK {
				t.Errorf("the record of %d bytes is read as %d bytes, %v", len(payload), len(got), e)
			}
			payload = made
		}
	}
}

// Only Size has an end at 4000: longer payloads have records, too.
func TestLongPayloads(t *testing.T) {
	for _, n := range []int{maxPayload + 1, 2 * maxPayload, 100000} {
		payload := mixed(n)
		made := record.Make(payload)
		if made != recordOf(payload) {
			t.Errorf("Make of %d bytes is no record", n)
		}
		if got, e := record.Read(made); got != payload || e != api.OK {
			t.Errorf("the record of %d bytes is read as %d bytes, %v", n, len(got), e)
		}
	}
}

func TestHalfOfAllBitsAreOnes(t *testing.T) {
	for _, payload := range payloads() {
		made, ones := record.Make(payload), 0
		for i := range len(made) {
			ones += bits.OnesCount8(made[i])
		}
		if ones != 4*len(made) {
			t.Errorf("the record of %d bytes has %d ones", len(payload), ones)
		}
	}
}

func TestSize(t *testing.T) {
	for n, want := range map[int]int{
		math.MinInt: 0, -4001: 0, -4000: 0, -5: 0, -4: 0, -3: 0, -1: 0,
		0: 8, 1: 10, 2: 12, 42: 92, 3999: 8006, 4000: 8008,
		4001: 0, 4002: 0, 8008: 0, 1 << 32: 0, 1<<32 + 1: 0, 1 << 62: 0, math.MaxInt: 0,
	} {
		if got := record.Size(n); got != want {
			t.Errorf("Size(%d): %d, not %d", n, got, want)
		}
	}
}

func TestSizeIsThatOfMadeRecords(t *testing.T) {
	for n := range maxPayload + 1 {
		if got, want := record.Size(n), 2*n+8; got != want {
			t.Fatalf("Size(%d): %d, not %d", n, got, want)
		}
	}
	for _, payload := range payloads() {
		if got := len(record.Make(payload)); got != record.Size(len(payload)) {
			t.Errorf("the record of %d bytes has %d bytes, not %d", len(payload), got, record.Size(len(payload)))
		}
	}
}

func TestReadNoRecord(t *testing.T) {
	for _, s := range []string{
		"", "\x00", "\xff", "\x00\xff", "\xff\x00", "\xff\xff", "abc", "\x00\x00\x00\xff\xff\xff",
		"\x00\x00\x00\x00", "\xff\xff\xff\xff\xff\xff\xff\xff", "\x00\x00\x00\x00\x00\x00\x00\x00",
		"\xff\xff\xff\xff\x00\x00\x00\x00", "\x00\x00\x00\x01\xff\xff\xff\xfe",
		strings.Repeat("\xff", 92), strings.Repeat("\x00", 92),
	} {
		if !refused(s) {
			t.Errorf("%q is read", s)
		}
	}
	for _, payload := range payloads() {
		seal, turn := sealed(payload), turnedAll(sealed(payload))
		wrong := turnedAll(payload + "\x01\x02\x03\x04")
		for i, s := range []string{seal, turn, turn + seal, seal + seal, turn + turn, payload, payload + turnedAll(payload), turnedAll(wrong) + wrong} {
			if !isRecord(s) && !refused(s) {
				t.Errorf("%q: way %d to be no record is read", payload, i)
			}
		}
	}
}

// One byte too few or too many, at either end or where the halves meet, and more of them.
func TestReadOtherLengths(t *testing.T) {
	for _, payload := range []string{"", "a", "ring", mixed(42)} {
		made := record.Make(payload)
		half := len(made) / 2
		for cut := 1; cut <= len(made); cut++ {
			if !refused(made[cut:]) || !refused(made[:len(made)-cut]) {
				t.Errorf("the record of %q without %d bytes is read", payload, cut)
			}
		}
		for _, more := range []string{"\x00", "\xff", "a", "\x00\x00", "\xff\xff", "\x00\xff", made} {
			for _, s := range []string{made + more, more + made, made[:half] + more + made[half:]} {
				if !refused(s) {
					t.Errorf("the record of %q and %q is read: %q", payload, more, s)
				}
			}
		}
		if !refused(made[:half-1] + made[half:]) {
			t.Errorf("the record of %q without a byte in its middle is read", payload)
		}
	}
}

func TestOneBitThatIsOtherwise(t *testing.T) {
	for _, payload := range []string{"", "a", "ring", "\x00\xff", mixed(42), mixed(300)} {
		made := record.Make(payload)
		for i := range 8 * len(made) {
			other := []byte(made)
			other[i/8] ^= 1 << (i % 8)
			if !refused(string(other)) {
				t.Errorf("the record of %q with bit %d turned is read", payload, i)
			}
		}
	}
}

// The same bit, turned in both halves, or a whole other seal in one of them.
func TestHalvesThatAreOtherwise(t *testing.T) {
	for _, payload := range []string{"", "a", "ring", mixed(42)} {
		made := record.Make(payload)
		half := len(made) / 2
		for i := range 8 * half {
			other := []byte(made)
			other[i/8] ^= 1 << (i % 8)
			other[half+i/8] ^= 1 << (i % 8)
			if !refused(string(other)) {
				t.Errorf("the record of %q with bit %d turned twice is read", payload, i)
			}
		}
	}
	a, b := record.Make("left"), record.Make("rght")
	if !refused(a[:8]+b[8:]) || !refused(b[:8]+a[8:]) {
		t.Error("halves of two records are read as one")
	}
}

// draws are n masks of as many bytes as asked for, of few, half or most bits.
func draws(n, size int) [][]byte {
	out, r := [][]byte{}, uint64(size)+1
	for i := range n {
		mask := make([]byte, size)
		for j := range mask {
			r = r*6364136223846793005 + 1442695040888963407
			a, b, c := byte(r>>56), byte(r>>48), byte(r>>40)
			mask[j] = [3]byte{a & b & c, a, a | b | c}[i%3]
		}
		out = append(out, mask)
	}
	return out
}

// What clearing or setting bits alone makes of a record is no other one.
func TestClearedOrSetBits(t *testing.T) {
	for _, payload := range []string{"", "\x00", "a", "ring", mixed(42), strings.Repeat("\x00", 42), strings.Repeat("\xff", 42)} {
		made := record.Make(payload)
		for _, mask := range draws(3000, len(made)) {
			cleared, set := []byte(made), []byte(made)
			for i, m := range mask {
				cleared[i] &= m
				set[i] |= m
			}
			for _, s := range []string{string(cleared), string(set)} {
				if s != made && !refused(s) {
					t.Fatalf("the record of %q becomes %q, that is read", payload, s)
				}
			}
		}
	}
}

// Of a torn write that clears from the left, or erases from the left, nothing is read till it is whole.
func TestTornRecords(t *testing.T) {
	for _, payload := range []string{"", "\xff\xff\xff\xff", "ring", mixed(42)} {
		made := record.Make(payload)
		for i := range len(made) {
			rest := strings.Repeat("\xff", len(made)-i)
			if s := made[:i] + rest; s != made && !refused(s) {
				t.Errorf("the record of %q is read when %d bytes are written", payload, i)
			}
			if s := rest + made[len(made)-i:]; s != made && !refused(s) {
				t.Errorf("the record of %q is read when %d bytes are left", payload, i)
			}
		}
	}
}

func TestTurnedBytesNextToEachOther(t *testing.T) {
	for _, payload := range []string{"", "\x00", "ring", mixed(42), strings.Repeat("\x00", 42)} {
		made := record.Make(payload)
		for at := range len(made) {
			masks := append(draws(300, 4), []byte{255, 255, 255, 255}, []byte{1, 0, 0, 0}, []byte{255, 0, 0, 255}, []byte{128, 0, 0, 1})
			for _, mask := range masks {
				other := []byte(made)
				for i := 0; i < 4 && at+i < len(made); i++ {
					other[at+i] ^= mask[i]
				}
				if s := string(other); s != made && !refused(s) {
					t.Fatalf("the record of %q becomes %q, that is read", payload, s)
				}
			}
		}
	}
}

func TestClear(t *testing.T) {
	for _, n := range []int{0, 1, 2, 3, 4, 92, 1025, 100000} {
		if !record.Clear(strings.Repeat("\xff", n)) {
			t.Errorf("%d erased bytes are not clear", n)
		}
	}
	for i := range 255 {
		for _, s := range []string{string([]byte{byte(i)}), string([]byte{255, byte(i)}), string([]byte{byte(i), 255, 255})} {
			if record.Clear(s) {
				t.Errorf("%q is clear", s)
			}
		}
	}
	for _, n := range []int{1, 2, 7, 92} {
		for i := range 8 * n {
			s := []byte(strings.Repeat("\xff", n))
			s[i/8] ^= 1 << (i % 8)
			if record.Clear(string(s)) {
				t.Errorf("%d bytes with bit %d cleared are clear", n, i)
			}
		}
	}
	for _, s := range []string{"ÿ", "ÿÿ", "\ufffd", "\x00", strings.Repeat("\x00", 8)} {
		if record.Clear(s) {
			t.Errorf("%q is clear", s)
		}
	}
	for _, payload := range payloads() {
		if record.Clear(record.Make(payload)) {
			t.Errorf("the record of %q is clear", payload)
		}
	}
}

// R4: the same call tells the same, whatever was called in between; R3: what was told stays as it is.
func TestSameCallTellsTheSame(t *testing.T) {
	made := record.Make("abc")
	read, _ := record.Read(made)
	record.Make("xyz")
	record.Read("none")
	record.Clear("\xff\x00")
	record.Size(-1)
	again, e := record.Read(made)
	if record.Make("abc") != made || made != recordOf("abc") || read != "abc" || again != read || e != api.OK {
		t.Errorf("Make and Read of abc: %q, %q, then %q, %q", made, read, record.Make("abc"), again)
	}
}

// P1: whatever is asked, all calls end, none panics, and beside an error stands a zero value.
func FuzzAllCalls(f *testing.F) {
	f.Add("", "", 0)
	f.Add("ring", "\xff", -1)
	f.Add("\x00\x00\x00\x00", "\xff\xff\xff\xff", maxPayload)
	f.Add(recordOf("a"), "", maxPayload+1)
	f.Add(recordOf("ring")[:8], recordOf("rong")[8:], math.MaxInt)
	f.Fuzz(func(t *testing.T, a, b string, n int) {
		made := record.Make(a)
		if got, e := record.Read(made); got != a || e != api.OK || made != recordOf(a) {
			t.Errorf("the record of %q: %q, read as %q, %v", a, made, got, e)
		}
		for _, s := range []string{a, a + b, sealed(a) + turnedAll(sealed(b)), a + turnedAll(a)} {
			got, e := record.Read(s)
			if isRecord(s) && (e != api.OK || recordOf(got) != s) || !isRecord(s) && (e != api.ErrForm || got != "") {
				t.Errorf("Read(%q): %q, %v", s, got, e)
			}
		}
		want := 0
		if n >= 0 && n <= maxPayload {
			want = 2*n + 8
		}
		if got := record.Size(n); got != want {
			t.Errorf("Size(%d): %d, not %d", n, got, want)
		}
		if got := record.Clear(a); got != (strings.Count(a, "\xff") == len(a)) {
			t.Errorf("Clear(%q): %v", a, got)
		}
	})
}
