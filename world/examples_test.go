package world

import (
	"testing"

	"varve/api"
	"varve/cache"
	"varve/ring"
	"varve/seal"
)

// The document's ten examples of the whole, but for the tenth, which is package tale's.

func TestExamplesOneToThree(t *testing.T) { // P1, P2
	r := newRig(t, small(), 5)
	r.want(0, begin(), begun(1, 0))
	r.want(0, readOf(0, 2), at(0))
	r.want(1, begin(), begun(2, 0))
	r.want(2, begin(), begun(3, 0))
	r.want(3, begin(), begun(4, 0))
	r.want(0, writeOf(0, 2, 0, "hi"), api.Reply{})
	r.want(0, readOf(0, 2), seen(0, "hi"))
	r.want(0, commitOf(0), at(1))
	r.want(1, readOf(0, 2), at(0))
	r.want(4, begin(), begun(5, 1))
	r.want(4, readOf(0, 2), seen(1, "hi"))
	r.want(2, writeOf(0, 3, 0, "one"), api.Reply{})
	r.want(3, writeOf(0, 3, 0, "two"), api.Reply{})
	r.want(3, commitOf(0), at(2))
	r.want(2, commitOf(0), fails(api.ErrConflict))
	r.wantPages("at the end", version(0, ""), version(0, ""), version(1, "hi"), version(2, "two"))
}

func TestExampleFour(t *testing.T) { // P3
	r := newRig(t, small(), 5)
	r.committed(0, "hi", 2)
	r.do(crash(), open(0))
	r.want(0, begin(), begun(1, 1))
	r.want(0, readOf(0, 2), seen(1, "hi"))
}

func TestExampleFive(t *testing.T) { // P3
	for kept := range 16 {
		r := newRig(t, small(), 5)
		r.committed(0, "ho", 2) // the log has an image of each page that the next one changes, so that a block is enough for it
		before := blocksOfTheLog(r)
		r.do(ask(0, begin()), round(1), ask(0, writeOf(0, 2, 0, "hi")), round(1), ask(0, commitOf(0)))
		r.do(round(4), fuse(2), round(1)) // asked for the turn, checked, held, installed; then a block is written, and not synced
		if d := r.w.Disk(); d.Pending() != 4 || !d.Down() {
			t.Fatalf("%d are pending, %d operations", d.Pending(), d.Ops())
		}
		var keep []bool
		for i := range 4 {
			keep = append(keep, kept>>i&1 == 1)
		}
		r.do(crash(keep...))
		want, blocks := version(1, "ho"), before
		if kept == 15 { // all of it: that is the commit that was under way
			want, blocks = version(2, "hi"), before+1
		}
		if got := blocksOfTheLog(r); got != blocks {
			t.Errorf("kept %v: %d blocks of the log, want %d", keep, got, blocks)
		}
		r.do(open(0))
		r.wantPages("opened again", version(0, ""), version(0, ""), want, version(0, ""))
	}
}

// blocksOfTheLog is how many blocks of the disk are the log's, and whole.
func blocksOfTheLog(r *rig) int {
	n := 0
	for i := range r.w.Disk().Size() {
		if _, ok := ring.Unpack(r.w.Disk().Seen(i)); ok {
			n++
		}
	}
	return n
}

func TestExampleSix(t *testing.T) { // P3
	r := newRig(t, small(), 5)
	r.committed(0, "hi", 2)
	r.committed(0, "ho", 2) // the image of the page, and a record behind it
	r.do(ask(1, of(api.CCheckpoint)), fuse(2), round(9))
	r.do(crash(true, false, true, false))
	if got := r.torn(small()); len(got) != 1 || got[0] != (api.PageID{No: 2}) {
		t.Fatalf("%v are torn", got)
	}
	r.do(open(0))
	r.wantPages("opened again", version(0, ""), version(0, ""), version(2, "ho"), version(0, ""))
	if _, _, ok := seal.Open(r.w.Disk().Sure(cache.Place(4, api.PageID{No: 2}))); !ok {
		t.Error("it is torn still")
	}
}

func TestExampleSeven(t *testing.T) { // P3
	run := func(events ...api.Event) *rig {
		r := newRig(t, small(), 5)
		r.committed(0, "hi", 2)
		r.call(0, begin())
		r.want(0, writeOf(0, 2, 0, "no"), api.Reply{})
		r.do(ask(0, commitOf(0)), round(4)) // it is installed
		r.do(crash())
		r.do(events...)
		return r
	}
	once := run(open(0))
	again := run(fuse(3), open(0), crash(), open(0))
	if once.w.Life() != 1 || again.w.Life() != 1 {
		t.Errorf("Life: %d, %d", once.w.Life(), again.w.Life())
	}
	for _, r := range []*rig{once, again} {
		r.wantPages("opened again", version(0, ""), version(0, ""), version(1, "hi"), version(0, ""))
		r.want(0, begin(), begun(1, 1))
		r.want(0, writeOf(0, 2, 1, "o"), api.Reply{})
		r.want(0, commitOf(0), at(2))
		r.wantPages("it goes on", version(0, ""), version(0, ""), version(2, "ho"), version(0, ""))
	}
}

func TestExampleEight(t *testing.T) { // P3, P4
	p := newPeople(t, 8, api.Config{Pages: 16, Undo: 14, Log: 512, MaxTs: 1000}, 5)
	early := false // a page has come to the disk ahead of its commit
	for range 2500 {
		last, durable := p.w.store.Oracle().Last(), p.w.store.State().Base().Log().Durable()
		p.event() // the log comes first: people look at that behind each event
		early = early || p.w.store.State().Base().Log().Durable() > durable && p.w.store.Oracle().Last() == last
	}
	p.drain()
	p.wantPages("at the end")
	if !early || p.m.Last() < 40 {
		t.Errorf("%d commits; the log was flushed ahead of one: %v", p.m.Last(), early)
	}
}

func TestExampleNine(t *testing.T) { // P5
	r := newRig(t, api.Config{Pages: 2, Undo: 2, Log: 200, MaxTs: 99}, 5)
	r.want(1, begin(), begun(1, 0))
	full := func() api.Reply {
		t.Helper()
		r.call(0, begin())
		r.want(0, writeOf(0, 1, 0, whole('z')), api.Reply{})
		return r.call(0, commitOf(0))
	}
	for i := range 4 { // two such records fill an undo page
		r.committed(0, whole(byte('a'+i)), 1)
	}
	if got := full(); got != fails(api.ErrFull) {
		t.Fatalf("it isn't full: %d", got.Err)
	}
	r.want(0, of(api.CCheckpoint), api.Reply{})
	r.want(0, of(api.CVacuum), api.Reply{})
	if got := full(); got != fails(api.ErrFull) {
		t.Errorf("while the first one is live: %d", got.Err)
	}
	r.want(1, readOf(0, 1), at(0))
	r.want(1, abortOf(0), api.Reply{})
	for _, kind := range []uint8{api.CCheckpoint, api.CVacuum, api.CCheckpoint} {
		r.want(0, of(kind), api.Reply{})
	}
	if r.records() != 0 {
		t.Errorf("%d records are live", r.records())
	}
	if got := full(); got != at(5) {
		t.Errorf("there is no room: %d", got.Err)
	}
}
