package world

import (
	"slices"
	"testing"

	"varve/api"
	"varve/chain"
	"varve/disk"
	"varve/master"
	"varve/restart"
	"varve/store"
)

func TestNewOfNoStore(t *testing.T) { // P27.1
	good := api.Config{Pages: 2, Undo: 2, Log: 64, MaxTs: 9}
	for _, c := range []api.Config{
		{}, {Pages: 0, Undo: 2, Log: 64}, {Pages: 17, Undo: 2, Log: 64}, {Pages: -1, Undo: 2, Log: 64},
		{Pages: 2, Undo: 0, Log: 64}, {Pages: 2, Undo: 33, Log: 64}, {Pages: 2, Undo: 2, Log: 63}, {Pages: 2, Undo: 2, Log: 513},
	} {
		for _, frames := range []int{4, 5, 32, 3} {
			if New(c, frames) != nil {
				t.Errorf("New(%+v, %d) isn't nil", c, frames)
			}
		}
	}
	for _, frames := range []int{-1 << 63, -1, 0, 3, 33, 1<<63 - 1} {
		if New(good, frames) != nil {
			t.Errorf("New(%+v, %d) isn't nil", good, frames)
		}
	}
}

func TestNew(t *testing.T) { // P27.1
	for _, c := range []api.Config{{Pages: 1, Undo: 1, Log: 64}, {Pages: 16, Undo: 32, Log: 512, MaxTs: 1<<32 - 1}, small()} {
		for _, frames := range []int{4, 5, 32} {
			w := New(c, frames)
			if w == nil {
				t.Fatalf("New(%+v, %d) is nil", c, frames)
			}
			d := w.Disk()
			if d.Size() != master.Size(c) || d.Ops() != 0 || d.Down() || d.Pending() != 0 {
				t.Errorf("New(%+v, %d): the disk has %d blocks, %d operations", c, frames, d.Size(), d.Ops())
			}
			s := w.Store()
			if s.Halted() || s.State().Master().Config != c || s.State().Master().Epoch != 1 || s.Oracle().Last() != 0 {
				t.Errorf("New(%+v, %d): the store is %+v", c, frames, s.State().Master())
			}
			if w.Life() != 0 || len(w.Told()) != 0 {
				t.Errorf("New(%+v, %d): Life is %d, told %v", c, frames, w.Life(), w.Told())
			}
			for i := 1; i < 3000; i++ { // there is no plan
				if _, e := d.Read(0); e != api.OK {
					t.Fatalf("the operation %d = %d", i, e)
				}
			}
			if d.Ops() != 2999 {
				t.Errorf("Ops = %d", d.Ops())
			}
		}
	}
}

func TestNewIsFormatAndOpen(t *testing.T) { // P27.1
	c := small()
	d := disk.New(master.Size(c))
	restart.Format(d, c)
	store.Open(d, 7)
	w := New(c, 7)
	for i := range d.Size() {
		if w.Disk().Seen(i) != d.Seen(i) || w.Disk().Sure(i) != d.Sure(i) {
			t.Errorf("the block %d isn't as it should be", i)
		}
	}
	if n := newRig(t, api.Config{Pages: 16, Undo: 32, Log: 64}, 7).frames(); n != 7 {
		t.Errorf("the store has %d frames", n)
	}
}

func TestNilWorld(t *testing.T) { // P27.1
	var w *World
	for kind := range 256 {
		w.Do(api.Event{Kind: uint8(kind), A: 1})
	}
	list, e := w.Pages()
	if len(w.Told()) != 0 || w.Store() != nil || w.Disk() != nil || w.Life() != 0 || len(list) != 0 || e != api.ErrHalted {
		t.Errorf("a nil world: %v, %v, %v, %d, %v, %d", w.Told(), w.Store(), w.Disk(), w.Life(), list, e)
	}
}

func TestToldIsNewMemory(t *testing.T) { // P27.3, rule 4
	r := newRig(t, small(), 5)
	r.do(ask(3, begin()))
	first := r.w.Told()
	r.do(round(1))
	if !first[0].Open {
		t.Error("what was answered has changed")
	}
	r.w.Told()[0].Who = 9
	_ = append(r.w.Told(), api.Told{Who: 8})
	r.do(ask(4, begin()))
	if got := r.w.Told(); len(got) != 2 || got[0].Who != 3 || got[1].Who != 4 {
		t.Errorf("Told = %v", got)
	}
}

func TestToldInOrder(t *testing.T) { // P27.3: as they were asked, not as they were answered
	r := newRig(t, small(), 5)
	r.do(ask(7, begin()), ask(2, begin()), ask(5, of(api.CCheckpoint)), step(0), step(1), ask(2, begin()), step(1))
	var who, from, to []int
	for _, x := range r.w.Told() {
		who, from, to = append(who, x.Who), append(from, x.From), append(to, x.To)
	}
	if !slices.Equal(who, []int{7, 2, 5, 2}) || !slices.Equal(from, []int{1, 2, 3, 6}) || !slices.Equal(to, []int{5, 4, 7, 0}) {
		t.Errorf("told %v, from %v, to %v", who, from, to)
	}
}

func TestStoreDiskLife(t *testing.T) { // P27.3
	r := newRig(t, small(), 5)
	d, s := r.w.Disk(), r.w.Store()
	r.do(crash())
	if r.w.Store() != nil || r.w.Disk() != d || r.w.Life() != 0 {
		t.Errorf("behind a crash: %v, Life %d", r.w.Store(), r.w.Life())
	}
	for life := 1; life < 4; life++ {
		r.do(open(0))
		if r.w.Store() == nil || r.w.Store() == s || r.w.Disk() != d || r.w.Life() != life || s.State() == r.w.Store().State() {
			t.Errorf("opened again: %v, Life %d", r.w.Store(), r.w.Life())
		}
		s = r.w.Store()
		r.do(crash())
	}
}

func TestPages(t *testing.T) { // P27.3
	r := newRig(t, small(), 5)
	blank := version(0, "")
	r.wantPages("a new store", blank, blank, blank, blank)
	r.call(1, begin())
	r.want(1, writeOf(0, 0, 0, "no"), api.Reply{})
	r.wantPages("nothing is committed", blank, blank, blank, blank)
	r.committed(2, "hi", 2)
	r.committed(2, "ho", 3, 1)
	r.wantPages("committed", blank, version(2, "ho"), version(1, "hi"), version(2, "ho"))
	r.do(ask(1, of(api.CCommit)), round(4)) // its page is installed
	if v, e := chain.Newest(r.w.Store().State().Base().Cache(), 0); v.Ts != 3 || e != api.OK {
		t.Fatalf("the page 0 has Ts %d, %d", v.Ts, e)
	}
	r.wantPages("one is under way", blank, version(2, "ho"), version(1, "hi"), version(2, "ho"))
	r.wantOpen("and stays so")
	r.do(crash())
	if list, e := r.w.Pages(); len(list) != 0 || e != api.ErrHalted {
		t.Errorf("without a store: %v, %d", list, e)
	}
	r.do(open(0))
	r.wantPages("opened again", blank, version(2, "ho"), version(1, "hi"), version(2, "ho"))
	r.want(0, of(api.CClose), api.Reply{})
	r.wantPages("closed", blank, version(2, "ho"), version(1, "hi"), version(2, "ho"))
}

func TestPagesThatCantBeRead(t *testing.T) { // P27.3
	r := newRig(t, api.Config{Pages: 9, Undo: 2, Log: 64, MaxTs: 9}, 4)
	r.do(fail(3))
	if list, e := r.w.Pages(); len(list) != 0 || e != api.ErrIO {
		t.Errorf("one can't be read: %v, %d", list, e)
	}
	if list, e := r.w.Pages(); len(list) != 9 || e != api.OK {
		t.Errorf("behind that: %v, %d", list, e)
	}
	r.do(fuse(3))
	if list, e := r.w.Pages(); len(list) != 0 || e != api.ErrDown {
		t.Errorf("the power goes: %v, %d", list, e)
	}
	if r.w.Store() == nil || !r.w.Disk().Down() {
		t.Error("the store isn't open, or the disk isn't down")
	}
}
