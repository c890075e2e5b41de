package book

import (
	"iter"
	"sync"
	"sync/atomic"

	"ouroboros/api"
	"ouroboros/entry"
	"ouroboros/flash"
	"ouroboros/octet"
	"ouroboros/page"
)

// sight is what a page holds.
type sight struct {
	page    int
	gen     int
	whole   bool
	entries []api.Entry
}

// lookThrough is what each page holds that is asked for, in order, and how many of their places are spoilt, in all.
func lookThrough(f api.Flash, asked func(n int) bool) ([]sight, int) {
	var numbers []int
	for n := range pages(f) {
		if asked(n) {
			numbers = append(numbers, n)
		}
	}
	seen := make([]sight, len(numbers))
	var spoilt atomic.Int64
	var looking sync.WaitGroup
	for i, n := range numbers {
		looking.Add(1)
		// Each one writes to a sight of its own: what they share is the count alone.
		go func() {
			defer looking.Done()
			seen[i] = look(n, f.Pages[n])
			for range spoiltPlaces(f.Pages[n]) {
				spoilt.Add(1)
			}
		}()
	}
	looking.Wait()
	return seen, int(spoilt.Load())
}

func anyPage(int) bool { return true }

// pages tells the numbers of a device's pages; none, if the device may not be.
func pages(f api.Flash) iter.Seq[int] {
	return func(yield func(int) bool) {
		if flash.Check(f) != api.OK {
			return
		}
		for n := range len(f.Pages) {
			if !yield(n) {
				return
			}
		}
	}
}

// look is what page n holds, whose text that is.
func look(n int, text string) sight {
	out := sight{page: n}
	for _, payload := range page.Records(text, api.Payload) {
		if kind, gen, is := readMark(payload); is {
			out.gen, out.whole = max(out.gen, gen), out.whole || kind == whole
		}
		if e, no := entry.Get(payload); no == api.OK {
			out.entries = append(out.entries, e)
		}
	}
	return out
}

// readMark is the kind and the generation of which the payload is the mark; false, if it is none.
func readMark(payload string) (int, int, bool) {
	// A payload that is read is as long as all are, so that both numbers stand in it.
	kind, _ := octet.Get(payload, 0, wideKind)
	gen, _ := octet.Get(payload, wideKind, wideGen)
	if s, no := Mark(kind, gen); no != api.OK || s != payload {
		return 0, 0, false
	}
	return kind, gen, true
}

// spoiltPlaces tells the numbers of the places that are bad, and not of zeros alone, as those are that were cleared by Clean.
func spoiltPlaces(text string) iter.Seq[int] {
	return func(yield func(int) bool) {
		for i := range page.Room(text, api.Payload) {
			if isSpoilt(page.Slot(text, api.Payload, i)) && !yield(i) {
				return
			}
		}
	}
}

func isSpoilt(place string) bool {
	return page.Bad(place, api.Payload) > 0 && place != zeros(len(place))
}
