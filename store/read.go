package store

import (
	"varve/api"
	"varve/chain"
	"varve/wset"
)

// begin begins a transaction.
func (s *Store) begin(*call) (api.Reply, bool) {
	txn, start, e := s.oracle.Begin()
	return api.Reply{Err: e, Txn: txn, Ts: start}, true
}

// abort ends one.
func (s *Store) abort(c *call) (api.Reply, bool) {
	s.end(c.Txn)
	return ended(api.OK)
}

// end makes a transaction be live no more.
func (s *Store) end(txn uint64) {
	s.oracle.End(txn)
	delete(s.sets, txn)
}

// read tells what a transaction sees of a page.
func (s *Store) read(c *call) (api.Reply, bool) {
	v, found, e := s.look(c)
	if !found {
		return unless(e)
	}
	return api.Reply{Ts: v.Ts, Body: v.Body}, true
}

// write writes to a page as the transaction sees it.
func (s *Store) write(c *call) (api.Reply, bool) {
	set := s.sets[c.Txn]
	// Ahead of the search, since no page is fetched for what is refused anyway.
	if _, ok := set.Read(c.Page); !ok && len(set.Pages()) >= api.MaxWrites {
		return ended(api.ErrMany)
	}
	v, found, e := s.look(c)
	if !found {
		return unless(e)
	}
	if set == nil {
		set = wset.New()
		s.sets[c.Txn] = set
	}
	return ended(set.Write(c.Page, v.Body, c.Off, c.S))
}

// look goes a step on towards what a transaction sees of a page; true: that is it.
func (s *Store) look(c *call) (api.Version, bool, api.Errno) {
	start, _ := s.oracle.Start(c.Txn)
	if body, ok := s.sets[c.Txn].Read(c.Page); ok {
		return api.Version{Ts: start, Body: body}, true, api.OK
	}
	v, e := s.following(c)
	if e != api.OK {
		return api.Version{}, false, e
	}
	c.version, c.seen = v, true
	return api.Version{Ts: v.Ts, Body: v.Body}, v.Ts <= start, api.OK
}

// following is the version ahead of the one that was seen last; at first the newest one that isn't of a commit under way.
func (s *Store) following(c *call) (api.Data, api.Errno) {
	pages := s.state.Base().Cache()
	if c.seen {
		return chain.Step(pages, c.Page, c.version)
	}
	v, e := chain.Newest(pages, c.Page)
	if e == api.OK && v.Ts > s.oracle.Last() {
		// In the same step: what was installed may be taken back ahead of the next one.
		return chain.Step(pages, c.Page, v)
	}
	return v, e
}
