package store

import (
	"errors"
	"testing"

	"ouroboros/api"
)

// What failed wraps its number, however deep; no error is no number.
func TestErrorsWrapNumbers(t *testing.T) {
	for no := api.ErrArg; no <= api.ErrNode; no++ {
		err := failureOf("rotate", no)
		if !errors.Is(err, no) || numberOf(err) != no || err.Error() != "rotate: "+no.Error() {
			t.Errorf("%v: %v", no, err)
		}
		if both := errors.Join(errors.New("another"), err); numberOf(both) != no {
			t.Errorf("%v: %v", no, both)
		}
	}
	if err := failureOf("rotate", api.OK); err != nil || numberOf(nil) != api.OK {
		t.Errorf("no error: %v", err)
	}
}

// Each thing that is done fails by its name.
func TestFailuresTellWhatWasDone(t *testing.T) {
	c := api.Config{Nodes: 2, Slots: 1, Pages: 3, Room: 4, Chunk: 1, Buffer: 1, Queue: 2, Wear: 9}
	s, _ := New(c)
	dead := s
	dead.Flash.Dead = true
	e := api.Entry{Key: "a", Val: api.Value{Kind: api.KindFlags, Flags: 1}}
	for want, ch := range map[string]*changing{"write: error 8": change(dead, c), "fit: error 1": change(api.Store{}, c)} {
		if is, err := ch.join(e); is || err == nil || err.Error() != want {
			t.Errorf("%v, %v, not %s", is, err, want)
		}
	}
	if is, err := change(s, c).join(api.Entry{}); is || err == nil || err.Error() != "join: error 2" {
		t.Errorf("%v, %v", is, err)
	}
	if err := change(s, c).boot(0, string(make([]byte, 65))); err == nil || err.Error() != "wake: error 1" {
		t.Error(err)
	}
}
