package flash

import (
	"strings"

	"ouroboros/api"
	"ouroboros/octet"
)

// step is one Erase, or one Program: what it does to a page if it is not torn.
type step interface {
	fits(size int) bool
	page(was string) string
	wear(was int) int
}

type erasing struct{}

func (erasing) fits(int) bool { return true }

func (erasing) page(was string) string { return octet.Ones(len(was)) }

func (erasing) wear(was int) int { return min(was+1, api.MaxNum) }

type programming struct {
	at int
	s  string
}

func (p programming) fits(size int) bool { return stands(p.s, p.at, size) }

func (p programming) page(was string) string { return was[:p.at] + octet.And(was[p.at:], p.s) }

func (programming) wear(was int) int { return was }

func take(f api.Flash, page int, s step) (api.Flash, api.Errno) {
	out := copied(f)
	if !hasPage(f, page) || !s.fits(len(f.Pages[page])) {
		return out, api.ErrArg
	}
	if f.Dead {
		return out, api.ErrDead
	}
	was := f.Pages[page]
	would := s.page(was)
	if f.Fuse == 0 {
		out.Pages[page], out.Dead = between(was, would, f.Torn), true
		return out, api.ErrDead
	}
	out.Pages[page], out.Wear[page] = would, s.wear(f.Wear[page])
	if f.Fuse > 0 {
		out.Fuse--
	}
	return out, api.OK
}

// between is a page of which just those bits were changed, of those that a step would change, that torn has.
func between(was, would, torn string) string {
	return octet.Xor(was, octet.And(octet.Xor(was, would), goingRound(torn, len(was))))
}

// goingRound is torn again and again, for each byte of a page one: where And finds none the bits would stay.
func goingRound(torn string, size int) string {
	if torn == "" {
		return strings.Repeat("\x00", size)
	}
	return strings.Repeat(torn, size/len(torn)+1)[:size]
}
