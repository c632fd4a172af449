package store

import (
	"varve/api"
	"varve/commit"
	"varve/vacuum"
)

// vacuum lets versions go that nobody can see any more.
func (s *Store) vacuum(c *call) (api.Reply, bool) {
	if !c.inLine {
		s.line(c)
		return api.Reply{}, false
	}
	if !s.roomy() {
		return ended(api.ErrFull)
	}
	b := s.state.Base()
	var e api.Errno
	switch {
	case len(c.places) > 0:
		e = commit.Free(b, c.places[0])
		c.places = c.places[1:]
	case c.next < b.Config().Pages:
		c.places, e = vacuum.Cut(b, uint16(c.next), s.oracle.Horizon())
		c.next++
	case !c.swept:
		c.places, e = vacuum.Orphans(b)
		c.swept = true
	default:
		return ended(api.OK)
	}
	return unless(e)
}

// checkpoint writes dirty pages back, and marks from where on the log is needed then.
func (s *Store) checkpoint(c *call) (api.Reply, bool) {
	if s.unclean(c) {
		return unless(s.clean(c))
	}
	return ended(s.mark())
}

// close does the same, and halts the store.
func (s *Store) close(c *call) (api.Reply, bool) {
	if s.unclean(c) {
		return unless(s.clean(c))
	}
	if len(s.calls) > 1 {
		return ended(api.ErrBusy)
	}
	e := s.mark()
	s.halted = e == api.OK
	return ended(e)
}

// unclean tells whether a page is left of those that were dirty at the first step.
func (s *Store) unclean(c *call) bool {
	if !c.listed {
		c.dirty = s.state.Base().Cache().Dirty()
		c.listed = true
	}
	return len(c.dirty) > 0
}

// clean writes the next page back, if nobody else has done that meanwhile.
func (s *Store) clean(c *call) api.Errno {
	id := c.dirty[0].Page
	c.dirty = c.dirty[1:]
	pages := s.state.Base().Cache()
	if pages.Clean(id) {
		return api.OK
	}
	return pages.Write(id)
}

// mark says on the disk up to where all is committed.
func (s *Store) mark() api.Errno {
	return s.state.Mark(s.oracle.Last())
}
