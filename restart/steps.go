package restart

import (
	"varve/api"
	"varve/apply"
	"varve/base"
	"varve/chain"
	"varve/commit"
	"varve/disk"
	"varve/log"
	"varve/master"
	"varve/page"
	"varve/rec"
	"varve/ring"
)

// begin takes up the newer master, and stores that there is a new epoch, so that no block of the log that is written
// from now on is taken for one of an earlier opening.
func begin(d *disk.Disk) (*State, api.Errno) {
	// What is read but doesn't last yet could be gone behind the next crash.
	if e := d.Sync(); e != api.OK {
		return nil, e
	}
	m, slot, e := master.Load(d)
	if e != api.OK {
		return nil, e
	}
	if d.Size() < master.Size(m.Config) {
		return nil, api.ErrForm
	}
	s := &State{slot: slot, tried: m.Seq}
	m.Epoch++
	return s, s.store(d, m)
}

// resume makes the parts, with a log that goes on behind what the disk has of it; the answer is what that tells.
func (s *State) resume(d *disk.Disk, frames int) ([]api.Item, api.Errno) {
	m := s.stored
	c := m.Config
	chunks, e := log.Scan(d, master.Size(c)-c.Log, c.Log, m.Tail)
	if e != api.OK {
		return nil, e
	}
	from, stream, starts, _ := ring.Join(m.Tail, chunks)
	if len(starts) == 0 {
		from = m.LSN
	}
	items, end := ring.Items(from, stream, m.LSN)
	kept, number := ring.Keep(m.Tail, starts, end)
	s.base = base.New(d, c, frames, m.Epoch, kept, number, end)
	if s.base == nil {
		return nil, api.ErrForm
	}
	return items, api.OK
}

// redoAll does what the log tells; the answer is the timestamp of the last commit.
func (s *State) redoAll(items []api.Item) (uint32, api.Errno) {
	last := s.stored.Last
	for _, x := range items {
		r, e := rec.Decode(x.Bytes)
		if e != api.OK { // a text that is no record tells nothing
			continue
		}
		if r.Kind == api.RCommit {
			last = max(last, r.Ts)
		} else if e := s.redo(api.Entry{LSN: x.LSN, Rec: r}); e != api.OK {
			return 0, e
		}
	}
	return last, api.OK
}

// redo does what a record tells of a page, unless the page has it.
func (s *State) redo(x api.Entry) api.Errno {
	c, id := s.base.Cache(), x.Rec.Page
	p, e := c.Fetch(id)
	if e == api.ErrArg { // there is no such page
		return api.OK
	}
	if e != api.OK {
		return e
	}
	defer c.Unpin(id)
	if !wants(p, c.Torn(id), x) {
		return api.OK
	}
	if p, e := apply.Redo(id, p, x); e == api.OK {
		c.Put(id, p)
	}
	return api.OK
}

// undoBehind takes back all versions that are newer than the last commit.
func (s *State) undoBehind(last uint32) api.Errno {
	if e := s.base.Learn(); e != api.OK {
		return e
	}
	for no := range s.base.Config().Pages {
		if e := popBehind(s.base, uint16(no), last); e != api.OK {
			return e
		}
	}
	return api.OK
}

// settle brings all pages to the disk, so that nothing of the log is needed any more, and marks that.
func (s *State) settle(last uint32) api.Errno {
	c := s.base.Cache()
	for _, x := range c.Dirty() {
		if e := c.Write(x.Page); e != api.OK {
			return e
		}
	}
	return s.Mark(last)
}

// wants tells whether a page lacks what a record tells: of a torn one nothing is known till an image tells all of it.
func wants(p api.Payload, torn bool, x api.Entry) bool {
	if torn {
		return x.Rec.Kind == api.RImage
	}
	return page.LSN(p) < x.LSN
}

// popBehind takes back a page's versions that are newer than the last commit.
func popBehind(b *base.Base, no uint16, last uint32) api.Errno {
	for {
		v, e := chain.Newest(b.Cache(), no)
		if e != api.OK || v.Ts <= last {
			return e
		}
		if e := commit.Pop(b, no); e != api.OK {
			return e
		}
	}
}
