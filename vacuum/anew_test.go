package vacuum

import (
	"math/rand"
	"slices"
	"testing"

	"varve/api"
	"varve/chain"
	"varve/commit"
	"varve/delta"
	"varve/page"
)

// plain is the chapter told anew, over a store of its own.
type plain struct {
	*rig
}

// look is what a page holds.
func (p plain) look(id api.PageID) (api.Payload, api.Errno) {
	x, e := p.b.Cache().Fetch(id)
	if e == api.OK {
		p.b.Cache().Unpin(id)
	}
	return x, e
}

// link is a version: its Ts, the place that tells it (none, of the newest one).
type link struct {
	ts uint32
	at api.Ref
}

// links are a page's versions.
func (p plain) links(no uint16) ([]link, api.Errno) {
	x, e := p.look(data(no))
	if e != api.OK {
		return nil, e
	}
	d, _ := page.GetData(no, x)
	list := []link{{ts: d.Ts}}
	for next := d.Prev; next.Page > 0; {
		x, e := p.look(undo(next.Page - 1))
		if e == api.ErrArg {
			e = api.ErrForm
		}
		if e != api.OK {
			return nil, e
		}
		u, _ := page.GetUndo(next.Page-1, x)
		if int(next.Slot) >= len(u.Olds) {
			return nil, api.ErrForm
		}
		o := u.Olds[next.Slot]
		if !o.Live || o.Page != no || o.Ts >= list[len(list)-1].ts || !delta.Check(o.Delta) {
			return nil, api.ErrForm
		}
		list = append(list, link{ts: o.Ts, at: next})
		next = o.Next
	}
	return list, api.OK
}

func (p plain) cut(no uint16, horizon uint32) ([]api.Ref, api.Errno) {
	list, e := p.links(no)
	if e != api.OK {
		return nil, e
	}
	for len(list) > 1 && list[0].ts > horizon {
		list = list[1:]
	}
	if len(list) == 1 {
		return nil, api.OK
	}
	x := dataEnd(no, list[0].ts)
	if list[0].at.Page > 0 {
		x = cutAt(list[0].at)
	}
	if e := p.b.Change(x); e != api.OK {
		return nil, e
	}
	var refs []api.Ref
	for _, l := range list[1:] {
		refs = append(refs, l.at)
	}
	return refs, api.OK
}

func (p plain) orphans() ([]api.Ref, api.Errno) {
	var used []api.Ref
	for no := range p.f.Pages {
		list, e := p.links(uint16(no))
		if e != api.OK {
			return nil, e
		}
		for _, l := range list[1:] {
			used = append(used, l.at)
		}
	}
	lost := slices.DeleteFunc(p.b.Room().Refs(), func(x api.Ref) bool { return slices.Contains(used, x) })
	return lost, api.OK
}

func (p plain) pass(horizon uint32) api.Errno {
	for no := range p.f.Pages {
		if _, e := p.cut(uint16(no), horizon); e != api.OK {
			return e
		}
	}
	lost, e := p.orphans()
	if e != api.OK {
		return e
	}
	for _, x := range lost {
		if e := p.b.Change(freeAt(x)); e != api.OK {
			return e
		}
	}
	return api.OK
}

// pair is a store, and the same told anew.
type pair struct {
	*rig
	p    plain
	last uint32 // the greatest Ts that was installed
	errs map[string]int
}

func (p *pair) both(do func(r *rig)) {
	do(p.rig)
	do(p.p.rig)
}

func (p *pair) same(name string, refs, wantRefs []api.Ref, got, want api.Errno) {
	p.t.Helper()
	p.errs[name+" "+string('0'+rune(got))]++
	if got != want || !slices.Equal(refs, wantRefs) || got != api.OK && len(refs) > 0 {
		p.t.Fatalf("%s = %v, %d, want %v, %d", name, refs, got, wantRefs, want)
	}
	a, b := p.rig, p.p.rig
	for i, id := range pagesOf(p.f) {
		x, y := a.b.Cache(), b.b.Cache()
		if x.Resident(id) != y.Resident(id) || x.Pins(id) != y.Pins(id) || x.Clean(id) != y.Clean(id) || a.d.Seen(2+i) != b.d.Seen(2+i) {
			p.t.Fatalf("%s: %v isn't as it should be", name, id)
		}
	}
	x, y := a.b.Log(), b.b.Log()
	if x.End() != y.End() || x.Durable() != y.Durable() || x.Free() != y.Free() || !slices.Equal(a.b.Room().Refs(), b.b.Room().Refs()) {
		p.t.Fatalf("%s: the log or the room isn't as it should be", name)
	}
	if a.d.Ops() != b.d.Ops() || a.d.Down() != b.d.Down() {
		p.t.Fatalf("%s: %d operations, want %d", name, a.d.Ops(), b.d.Ops())
	}
}

func (p *pair) step(x *rand.Rand) {
	p.t.Helper()
	no, horizon := uint16(x.Intn(p.f.Pages+1)), uint32(x.Intn(int(p.last)+2))
	switch x.Intn(8) {
	case 0, 1, 2, 3:
		ts, body := p.last+uint32(x.Intn(4)), wholeOf(x.Intn(256))
		if x.Intn(3) > 0 {
			body = bodyOf(x.Intn(256))
		}
		e := commit.Install(p.b, no, ts, body)
		p.same("Install", nil, nil, e, commit.Install(p.p.b, no, ts, body))
		if e == api.OK {
			p.last = ts
		}
	case 4:
		p.same("Pop", nil, nil, commit.Pop(p.b, no), commit.Pop(p.p.b, no))
	case 5:
		got, e := Cut(p.b, no, horizon)
		want, f := p.p.cut(no, horizon)
		p.same("Cut", got, want, e, f)
	case 6:
		got, e := Orphans(p.b)
		want, f := p.p.orphans()
		p.same("Orphans", got, want, e, f)
	case 7:
		p.same("Pass", nil, nil, Pass(p.b, horizon), p.p.pass(horizon))
	}
}

// stir does what others may do with the parts.
func (p *pair) stir(x *rand.Rand) {
	ids := pagesOf(p.f)
	id, from := ids[x.Intn(len(ids))], x.Intn(len(ids))
	fails, fuse := []int{1 + x.Intn(8), 1 + x.Intn(20)}, x.Intn(5)*x.Intn(8)
	n := x.Intn(9)
	p.both(func(r *rig) {
		switch n {
		case 0:
			r.b.Cache().Write(id)
		case 1:
			for _, id := range ids[from:min(from+4, len(ids))] {
				r.b.Cache().Fetch(id)
			}
		case 2, 3, 4, 5:
			for _, id := range ids {
				for r.b.Cache().Unpin(id) == api.OK {
				}
			}
		case 6, 7:
			if r.b.Log().Flush() == api.OK {
				r.b.Log().Trim(r.b.Log().End())
			}
		case 8:
			r.d.Crash(nil)
			r.d.Plan(fails, fuse)
		}
	})
}

// spoil breaks a chain, or lays a stray.
func (p *pair) spoil(x *rand.Rand) {
	no := uint16(x.Intn(p.f.Undo))
	slot := uint8(x.Intn(4))
	o := api.Old{Live: true, Page: uint16(x.Intn(p.f.Pages)), Ts: uint32(x.Intn(int(p.last) + 1)), Next: at(uint16(x.Intn(p.f.Undo+2)), uint8(x.Intn(3)))}
	list := []api.Rec{{Kind: api.RAdd, Page: undo(no), Slot: slot, Old: o}, freeAt(at(no+1, slot))}
	r := list[x.Intn(9)/8]
	p.both(func(one *rig) { one.b.Change(r) })
}

func TestToldAnew(t *testing.T) { // P22.1, P22.2, P22.3
	errs := make(map[string]int)
	for seed := range int64(160) {
		x := rand.New(rand.NewSource(seed))
		f := api.Config{Pages: 1 + x.Intn(6), Undo: 1 + x.Intn(4), Log: 2 + x.Intn(30)}
		frames := []int{4, 5, 12}[seed%3]
		p := &pair{rig: rigOf(t, frames, f.Pages, f.Undo, f.Log), errs: errs}
		p.p = plain{rigOf(t, frames, f.Pages, f.Undo, f.Log)}
		for range 300 {
			switch n := x.Intn(40); {
			case n < 13:
				p.stir(x)
			case n < 14 && seed%2 == 0:
				p.spoil(x)
			default:
				p.step(x)
			}
		}
	}
	for _, name := range []string{
		"Cut 0", "Cut 1", "Cut 2", "Cut 3", "Cut 4", "Cut 5", "Cut 6",
		"Orphans 0", "Orphans 2", "Orphans 3", "Orphans 4", "Orphans 6",
		"Pass 0", "Pass 2", "Pass 3", "Pass 4", "Pass 5", "Pass 6",
	} {
		if errs[name] < 15 {
			t.Errorf("%s was answered only %d times", name, errs[name])
		}
	}
}

// What can be seen from the horizon on is the same behind each call, whatever comes of it.
func TestAlwaysSeen(t *testing.T) { // P22.4
	passes := 0
	for seed := range int64(60) {
		x := rand.New(rand.NewSource(seed))
		f := api.Config{Pages: 1 + x.Intn(5), Undo: 1 + x.Intn(4), Log: 64}
		r := rigOf(t, 4+x.Intn(3), f.Pages, f.Undo, f.Log)
		last := uint32(0)
		for range 60 {
			for range x.Intn(6) {
				if commit.Install(r.b, uint16(x.Intn(f.Pages)), last+1, wholeOf(x.Intn(256))) == api.OK {
					last++
				}
			}
			horizon := uint32(x.Intn(int(last) + 1))
			times := []uint32{horizon, horizon + 1, (horizon + last) / 2, last, last + 1}
			before := r.seen(horizon, times)
			if x.Intn(2) == 0 {
				r.d.Plan([]int{1 + x.Intn(12)}, x.Intn(3)*x.Intn(16))
			}
			e := api.OK
			if no := uint16(x.Intn(f.Pages)); x.Intn(3) == 0 {
				_, e = Cut(r.b, no, horizon)
			} else if e = Pass(r.b, horizon); e == api.OK {
				passes++
			}
			r.d.Crash(nil)
			if !slices.Equal(r.seen(horizon, times), before) {
				t.Fatalf("seed %d: behind %d something is seen otherwise from %d on", seed, e, horizon)
			}
			if e != api.OK {
				r.want("Pass again", Pass(r.b, horizon), api.OK)
				r.wantNeeded("again", horizon)
			}
			if r.b.Log().Free() < 40 {
				r.b.Log().Flush()
				r.b.Log().Trim(r.b.Log().End())
			}
			for no := range f.Pages {
				if _, e := chain.Versions(r.b.Cache(), uint16(no)); e != api.OK {
					t.Fatalf("seed %d: a chain is broken: %d", seed, e)
				}
			}
		}
	}
	if passes < 500 {
		t.Errorf("just %d passes", passes)
	}
}
