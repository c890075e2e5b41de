package store

import (
	"slices"

	"ouroboros/api"
	"ouroboros/arena"
	"ouroboros/book"
	"ouroboros/flash"
)

// changing is a store that is changed where it stands, as nobody else has its memory.
type changing struct {
	api.Store
	config api.Config
}

func change(s api.Store, c api.Config) *changing {
	s.Flash.Pages, s.Flash.Wear = slices.Clone(s.Flash.Pages), slices.Clone(s.Flash.Wear)
	s.Arena.Slots, s.Arena.Index = slices.Clone(s.Arena.Slots), slices.Clone(s.Arena.Index)
	for i, e := range s.Arena.Slots {
		s.Arena.Slots[i] = twin(e)
	}
	return &changing{s, c}
}

// twin is alike, and in memory of its own.
func twin(e api.Entry) api.Entry {
	e.Val.Plus, e.Val.Minus = slices.Clone(e.Val.Plus), slices.Clone(e.Val.Minus)
	return e
}

// writing is what is written to a device: it tells the device and the book as they are then.
type writing struct {
	name  string
	write func(api.Flash, api.Book) (api.Flash, api.Book, api.Errno)
}

// do leaves the book as it was, if there is an error. Of any error the device is what is told: that is as it was, but for the steps that were taken.
func (c *changing) do(w writing) error {
	f, b, no := w.write(c.Flash, c.Book)
	c.Flash = f
	if no == api.OK {
		c.Book = b
	}
	return failureOf(w.name, no)
}

// join tells whether the entry changes what is held, and is written.
func (c *changing) join(e api.Entry) (bool, error) {
	if !Fits(c.Store, c.config) {
		return false, failure{"fit", api.ErrArg}
	}
	joined, is, no := arena.Join(c.Arena, e)
	if no != api.OK || !is {
		return false, failureOf("join", no)
	}
	err := c.do(writing{"write", func(f api.Flash, b api.Book) (api.Flash, api.Book, api.Errno) {
		return book.Write(f, b, c.config, joined, e)
	}})
	if err != nil {
		return false, err
	}
	c.Arena = joined
	return true, nil
}

func (c *changing) boot(fuse int, torn string) error {
	if !book.Fits(c.Flash, c.config) {
		return failure{"fit", api.ErrArg}
	}
	awake, no := flash.Wake(c.Flash, fuse, torn)
	if no != api.OK {
		return failure{"wake", no}
	}
	// Recover may erase what is spoilt: so that is counted ahead of it.
	_, spoilt := book.Load(awake, book.Find(awake), c.config.Slots)
	c.Flash = awake
	var held api.Arena
	err := c.do(writing{"recover", func(f api.Flash, _ api.Book) (api.Flash, api.Book, api.Errno) {
		f, b, a, no := book.Recover(f, c.config)
		held = a
		return f, b, no
	}})
	if err != nil {
		return err
	}
	c.Arena, c.Lost, c.Next = held, c.Lost+spoilt, 0
	return nil
}

func (c *changing) scrub() error {
	if !Fits(c.Store, c.config) {
		return failure{"fit", api.ErrArg}
	}
	n := c.Next
	if !hasPage(c.Flash, n) {
		n = 0
	}
	spoilt := 0
	err := c.do(writing{"clean", func(f api.Flash, b api.Book) (api.Flash, api.Book, api.Errno) {
		f, count, no := book.Clean(f, n)
		spoilt = count
		return f, b, no
	}})
	if err != nil {
		return err
	}
	c.Lost, c.Next = c.Lost+spoilt, (n+1)%len(c.Flash.Pages)
	if spoilt == 0 || n != c.Book.Head {
		return nil
	}
	return c.do(writing{"rotate", func(f api.Flash, b api.Book) (api.Flash, api.Book, api.Errno) {
		return book.Rotate(f, b, c.config, c.Arena)
	}})
}
