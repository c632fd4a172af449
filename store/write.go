package store

import (
	"varve/api"
	"varve/chain"
	"varve/commit"
)

// stage is how far a CCommit has come.
type stage int

const (
	entering   stage = iota // it asks for the turn
	checking                // there must be a timestamp for it, and room in the log
	holding                 // page by page
	installing              // page by page
	telling                 // that it is done
)

// commit makes what a transaction has written be there for all who begin behind it.
func (s *Store) commit(c *call) (api.Reply, bool) {
	var e api.Errno
	switch c.stage {
	case entering:
		return s.enter(c)
	case checking:
		e = s.check(c)
	case holding:
		e = s.hold(c)
	case installing:
		e = s.install(c)
	case telling:
		return s.tell(c)
	}
	if e != api.OK {
		return s.takeBack(c, e)
	}
	return api.Reply{}, false
}

// enter asks for the turn; who has written nothing needs none.
func (s *Store) enter(c *call) (api.Reply, bool) {
	c.pages = s.sets[c.Txn].Pages()
	if len(c.pages) == 0 {
		start, _ := s.oracle.Start(c.Txn)
		s.end(c.Txn)
		return api.Reply{Ts: start}, true
	}
	s.line(c)
	c.stage = checking
	return api.Reply{}, false
}

// check finds the timestamp, and looks whether the log has room.
func (s *Store) check(c *call) api.Errno {
	ts, e := s.oracle.Next()
	if e != api.OK {
		return e
	}
	if !s.roomy() {
		return api.ErrFull
	}
	c.ts = ts
	c.stage = holding
	return api.OK
}

// hold fetches the next page, which must be as it was when the transaction began.
func (s *Store) hold(c *call) api.Errno {
	no := c.pages[c.held]
	pages := s.state.Base().Cache()
	if _, e := pages.Fetch(api.PageID{No: no}); e != api.OK {
		return e
	}
	c.held++
	newest, e := chain.Newest(pages, no)
	if e != api.OK {
		return e
	}
	if start, _ := s.oracle.Start(c.Txn); newest.Ts > start {
		return api.ErrConflict
	}
	if c.held == len(c.pages) {
		c.stage = installing
	}
	return api.OK
}

// install gives the next page its new version.
func (s *Store) install(c *call) api.Errno {
	no := c.pages[c.installed]
	body, _ := s.sets[c.Txn].Read(no)
	if e := commit.Install(s.state.Base(), no, c.ts, body); e != api.OK {
		return e
	}
	c.installed++
	if c.installed == len(c.pages) {
		c.stage = telling
	}
	return api.OK
}

// tell tells the log that the commit is done.
func (s *Store) tell(c *call) (api.Reply, bool) {
	if s.state.Base().Commit(c.ts) != api.OK {
		// It may last or not, so that neither answer would be true.
		s.halted = true
		return ended(api.ErrHalted)
	}
	s.oracle.Publish(c.ts)
	s.end(c.Txn)
	return api.Reply{Ts: c.ts}, true
}

// takeBack ends a commit that can't be done.
func (s *Store) takeBack(c *call, e api.Errno) (api.Reply, bool) {
	s.end(c.Txn)
	for c.installed > 0 {
		c.installed--
		if commit.Pop(s.state.Base(), c.pages[c.installed]) != api.OK {
			s.halted = true
			return ended(api.ErrHalted)
		}
	}
	return ended(e)
}
