package base

import (
	"math/rand"
	"slices"
	"testing"

	"varve/api"
	"varve/apply"
	"varve/cache"
	"varve/disk"
	"varve/log"
	"varve/page"
	"varve/rec"
	"varve/room"
)

// plain is the chapter told anew, over parts of its own.
type plain struct {
	d *disk.Disk
	l *log.Log
	c *cache.Cache
	m *room.Room
	f api.Config
}

func plainOf(f api.Config, frames int) *plain {
	d := blankDisk(f)
	l := log.New(d, 2+f.Pages+f.Undo, f.Log, 1, nil, 0, 1)
	return &plain{d: d, l: l, c: cache.New(d, l, frames, f.Pages, f.Undo), m: room.New(f.Undo), f: f}
}

// tell says what an undo page holds.
func (p *plain) tell(id api.PageID, x api.Payload) {
	u, _ := page.GetUndo(id.No, x)
	live := false
	for _, o := range u.Olds {
		live = live || o.Live
	}
	p.m.Note(int(id.No), u)
	p.c.Cold(id, !live)
}

func (p *plain) learn() api.Errno {
	for no := uint16(0); int(no) < p.f.Undo; no++ {
		x, e := p.c.Fetch(undo(no))
		if e != api.OK {
			return e
		}
		p.c.Unpin(undo(no))
		p.tell(undo(no), x)
	}
	return api.OK
}

func (p *plain) change(r api.Rec) api.Errno {
	if !rec.May(r) || r.Kind < api.RData || r.Kind > api.RCut {
		return api.ErrArg
	}
	old, e := p.c.Fetch(r.Page)
	if e != api.OK {
		return e
	}
	made, e := apply.Redo(r.Page, old, api.Entry{LSN: p.l.End(), Rec: r})
	if e != api.OK {
		p.c.Unpin(r.Page)
		return e
	}
	dirty := slices.ContainsFunc(p.c.Dirty(), func(d api.Dirt) bool { return d.Page == r.Page })
	text, _ := rec.Encode(api.Rec{Kind: api.RImage, Page: r.Page, Image: made})
	if dirty {
		text, _ = rec.Encode(r)
	}
	if _, e = p.l.Append(text); e == api.OK {
		p.c.Put(r.Page, made)
		if r.Page.Undo {
			p.tell(r.Page, made)
		}
	}
	p.c.Unpin(r.Page)
	return e
}

func (p *plain) commit(ts uint32) api.Errno {
	text, _ := rec.Encode(api.Rec{Kind: api.RCommit, Ts: ts})
	if _, e := p.l.Append(text); e != api.OK {
		return e
	}
	return p.l.Flush()
}

// pair is a store's parts, and the same told anew.
type pair struct {
	*rig
	p    *plain
	errs map[api.Errno]int
}

func pairOf(t *testing.T, frames int, f api.Config) *pair {
	t.Helper()
	r := rigOf(t, frames, f.Pages, f.Undo, f.Log)
	return &pair{rig: r, p: plainOf(r.f, frames), errs: make(map[api.Errno]int)}
}

// both does something with both caches.
func (p *pair) both(do func(c *cache.Cache, d *disk.Disk, l *log.Log)) {
	do(p.b.Cache(), p.d, p.b.Log())
	do(p.p.c, p.p.d, p.p.l)
}

// anyRec is a record, mostly one that makes a change.
func (p *pair) anyRec(x *rand.Rand) api.Rec {
	no, at := uint16(x.Intn(p.f.Undo+1)), uint8(x.Intn(5))
	switch x.Intn(12) {
	case 0, 1, 2:
		return setTo(uint16(x.Intn(p.f.Pages+1)), x.Uint32())
	case 3, 4, 5, 6:
		return add(no, at, x.Intn(68))
	case 7, 8:
		return free(no, at)
	case 9:
		return cut(no, at)
	case 10:
		return api.Rec{Kind: api.RData, Page: data(uint16(x.Intn(p.f.Pages))), Delta: string([]byte{byte(x.Intn(70)), 1, 9})}
	}
	return api.Rec{Kind: uint8(x.Intn(8)), Page: api.PageID{Undo: x.Intn(2) == 0}, Ts: uint32(x.Intn(2))}
}

func (p *pair) step(x *rand.Rand) {
	p.t.Helper()
	var got, want api.Errno
	name := "Change"
	switch x.Intn(20) {
	case 0:
		name, got, want = "Learn", p.b.Learn(), p.p.learn()
	case 1:
		ts := x.Uint32()
		name, got, want = "Commit", p.b.Commit(ts), p.p.commit(ts)
	default:
		r := p.anyRec(x)
		got, want = p.b.Change(r), p.p.change(r)
	}
	p.errs[got]++
	if got != want {
		p.t.Fatalf("%s = %d, want %d", name, got, want)
	}
}

// stir does what others may do with the parts.
func (p *pair) stir(x *rand.Rand) {
	ids := pagesOf(p.f)
	id := ids[x.Intn(len(ids))]
	fails, fuse := []int{1 + x.Intn(6), 1 + x.Intn(12)}, x.Intn(5)*x.Intn(5)
	n := x.Intn(8)
	p.both(func(c *cache.Cache, d *disk.Disk, l *log.Log) {
		switch n {
		case 0:
			c.Write(id)
		case 1, 2:
			c.Fetch(id)
		case 3, 4, 5:
			for c.Unpin(id) == api.OK {
			}
		case 6:
			if l.Flush() == api.OK {
				l.Trim(l.End())
			}
		case 7:
			if d.Down() {
				d.Crash(nil)
			}
			d.Plan(fails, fuse)
		}
	})
}

// same holds all that can be told of the parts against what is told anew.
func (p *pair) same() {
	p.t.Helper()
	a, b := p.b, p.p
	for i, id := range pagesOf(p.f) {
		if a.Cache().Resident(id) != b.c.Resident(id) || a.Cache().Pins(id) != b.c.Pins(id) || a.Cache().Clean(id) != b.c.Clean(id) || p.d.Seen(2+i) != b.d.Seen(2+i) {
			p.t.Fatalf("%v isn't as it should be", id)
		}
	}
	for no := range p.f.Undo {
		if !sameUndo(a.Room().Page(no), b.m.Page(no)) {
			p.t.Fatalf("of the undo page %d it was noted %v, want %v", no, a.Room().Page(no), b.m.Page(no))
		}
	}
	if numbersOf(a.Log()) != numbersOf(b.l) || !slices.Equal(a.Cache().Dirty(), b.c.Dirty()) {
		p.t.Fatalf("the log says %+v, want %+v, or other pages are dirty", numbersOf(a.Log()), numbersOf(b.l))
	}
	if p.d.Ops() != b.d.Ops() || p.d.Down() != b.d.Down() || p.d.Pending() != b.d.Pending() {
		p.t.Fatalf("%d operations, want %d", p.d.Ops(), b.d.Ops())
	}
}

// sameEnd holds what the pages and the log hold in the end against what is told anew.
func (p *pair) sameEnd() {
	p.t.Helper()
	p.both(func(c *cache.Cache, d *disk.Disk, l *log.Log) {
		d.Crash(nil)
		for _, id := range pagesOf(p.f) {
			for c.Unpin(id) == api.OK {
			}
		}
		for _, x := range c.Dirty() {
			c.Write(x.Page)
		}
		l.Flush()
	})
	for i := range p.d.Size() {
		if p.d.Sure(i) != p.p.d.Sure(i) {
			p.t.Fatalf("the block %d isn't as it should be", i)
		}
	}
}

func TestToldAnew(t *testing.T) { // P20.2, P20.3, P20.4
	errs := make(map[api.Errno]int)
	for seed := range int64(60) {
		x := rand.New(rand.NewSource(seed))
		f := api.Config{Pages: 1 + x.Intn(6), Undo: 1 + x.Intn(5), Log: 1 + x.Intn(12), MaxTs: 99}
		p := pairOf(t, []int{4, 5, 12}[seed%3], f)
		for range 400 {
			if x.Intn(4) == 0 {
				p.stir(x)
			} else {
				p.step(x)
			}
			p.same()
		}
		p.sameEnd()
		for e, n := range p.errs {
			errs[e] += n
		}
	}
	for _, e := range []api.Errno{api.OK, api.ErrArg, api.ErrForm, api.ErrIO, api.ErrDown, api.ErrFull, api.ErrNoFrame} {
		if errs[e] < 50 {
			t.Errorf("%d was answered only %d times", e, errs[e])
		}
	}
}
