package book

import (
	"ouroboros/api"
	"ouroboros/flash"
	"ouroboros/octet"
	"ouroboros/page"
	"ouroboros/record"
)

const allOnes = 0xff

// Clean clears places that are spoilt.
func Clean(f api.Flash, n int) (api.Flash, int, api.Errno) {
	out := copied(f)
	if !hasPage(f, n) {
		return out, 0, api.ErrArg
	}
	count := 0
	for i := range spoiltPlaces(f.Pages[n]) {
		var no api.Errno
		if out, no = wipe(out, n, i); no != api.OK {
			return out, count, no
		}
		count++
	}
	return out, count, api.OK
}

// wipe programs place i of page n with zeros alone. Where the place could come to be a record, were just some of its bits cleared, one bit is cleared ahead of that, behind which it no longer can.
func wipe(f api.Flash, n, i int) (api.Flash, api.Errno) {
	place := page.Slot(f.Pages[n], api.Payload, i)
	start := i * record.Size(api.Payload)
	if at, bit, is := decisive(place); is {
		var no api.Errno
		if f, no = flash.Program(f, n, start+at, string([]byte{allOnes &^ bit})); no != api.OK {
			return f, no
		}
	}
	return flash.Program(f, n, start, zeros(len(place)))
}

// decisive is the byte, and the bit of it, that is 1 at the first place at which just one half's is: cleared, both are 0 there, and in a record no two are alike. False, if both are 0 somewhere already, or none differ.
func decisive(place string) (int, byte, bool) {
	half := len(place) / 2
	front, back := place[:half], place[half:]
	if octet.Or(front, back) != octet.Ones(half) {
		return 0, 0, false
	}
	differ := octet.Xor(front, back)
	for i := range half {
		bit := lowest(differ[i])
		if bit == 0 {
			continue
		}
		if front[i]&bit != 0 {
			return i, bit, true
		}
		return half + i, bit, true
	}
	return 0, 0, false
}

// lowest is the lowest bit of b alone; 0, if it has none.
func lowest(b byte) byte { return b & -b }
