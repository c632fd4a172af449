package commit

import (
	"math/rand"
	"slices"
	"testing"

	"varve/api"
	"varve/chain"
	"varve/delta"
	"varve/page"
)

// plain is the chapter told anew, over a store of its own.
type plain struct {
	*rig
}

// look is what a page holds.
func (p plain) look(id api.PageID) (api.Payload, api.Errno) {
	x, e := p.b.Cache().Fetch(id)
	if e == api.OK {
		p.b.Cache().Unpin(id)
	}
	return x, e
}

func (p plain) install(no uint16, ts uint32, body api.Body) api.Errno {
	x, e := p.look(data(no))
	if e != api.OK {
		return e
	}
	v, _ := page.GetData(no, x)
	if ts <= v.Ts {
		return api.ErrArg
	}
	o := api.Old{Live: true, Page: no, Ts: v.Ts, Next: v.Prev, Delta: delta.Make(body, v.Body)}
	at, ok := p.b.Room().Find(len(o.Delta))
	if !ok {
		return api.ErrFull
	}
	slot := 0
	for _, old := range p.b.Room().Page(at).Olds {
		if !old.Live {
			break
		}
		slot++
	}
	there := undo(uint16(at))
	if e := p.b.Change(api.Rec{Kind: api.RAdd, Page: there, Slot: uint8(slot), Old: o}); e != api.OK {
		return e
	}
	prev := api.Ref{Page: uint16(at + 1), Slot: uint8(slot)}
	e = p.b.Change(api.Rec{Kind: api.RData, Page: data(no), Ts: ts, Prev: prev, Delta: delta.Make(v.Body, body)})
	if e != api.OK {
		p.b.Change(api.Rec{Kind: api.RFree, Page: there, Slot: uint8(slot)})
	}
	return e
}

func (p plain) pop(no uint16) api.Errno {
	x, e := p.look(data(no))
	if e != api.OK {
		return e
	}
	v, _ := page.GetData(no, x)
	if v.Prev.Page == 0 {
		return api.ErrArg
	}
	there := undo(v.Prev.Page - 1)
	x, e = p.look(there)
	if e != api.OK {
		return e
	}
	u, _ := page.GetUndo(there.No, x)
	if int(v.Prev.Slot) >= len(u.Olds) || !u.Olds[v.Prev.Slot].Live || u.Olds[v.Prev.Slot].Page != no || u.Olds[v.Prev.Slot].Ts >= v.Ts {
		return api.ErrForm
	}
	o := u.Olds[v.Prev.Slot]
	body, _ := delta.Apply(v.Body, o.Delta)
	e = p.b.Change(api.Rec{Kind: api.RData, Page: data(no), Ts: o.Ts, Prev: o.Next, Delta: delta.Make(v.Body, body)})
	if e == api.OK {
		p.b.Change(api.Rec{Kind: api.RFree, Page: there, Slot: v.Prev.Slot})
	}
	return e
}

func (p plain) free(at api.Ref) api.Errno {
	if at.Page == 0 {
		return api.ErrArg
	}
	return p.b.Change(api.Rec{Kind: api.RFree, Page: undo(at.Page - 1), Slot: at.Slot})
}

// pair is a store, the same told anew, and which versions each page has.
type pair struct {
	*rig
	p    plain
	has  [][]api.Version
	errs map[api.Errno]int
}

func pairOf(t *testing.T, frames int, f api.Config) *pair {
	t.Helper()
	p := &pair{errs: make(map[api.Errno]int)}
	p.rig = rigOf(t, frames, f.Pages, f.Undo, f.Log)
	p.p = plain{rigOf(t, frames, f.Pages, f.Undo, f.Log)}
	for range f.Pages {
		p.has = append(p.has, []api.Version{{}})
	}
	return p
}

func (p *pair) both(do func(r *rig)) {
	do(p.rig)
	do(p.p.rig)
}

func (p *pair) same(name string, got, want api.Errno) {
	p.t.Helper()
	p.errs[got]++
	if got != want {
		p.t.Fatalf("%s = %d, want %d", name, got, want)
	}
	a, b := p.rig, p.p.rig
	for i, id := range pagesOf(p.f) {
		x, y := a.b.Cache(), b.b.Cache()
		if x.Resident(id) != y.Resident(id) || x.Pins(id) != y.Pins(id) || x.Clean(id) != y.Clean(id) || a.d.Seen(2+i) != b.d.Seen(2+i) {
			p.t.Fatalf("%s: %v isn't as it should be", name, id)
		}
	}
	x, y := a.b.Log(), b.b.Log()
	if x.End() != y.End() || x.Durable() != y.Durable() || x.Free() != y.Free() || !slices.Equal(a.b.Room().Refs(), b.b.Room().Refs()) {
		p.t.Fatalf("%s: the log or the room isn't as it should be", name)
	}
	if a.d.Ops() != b.d.Ops() || a.d.Down() != b.d.Down() {
		p.t.Fatalf("%s: %d operations, want %d", name, a.d.Ops(), b.d.Ops())
	}
}

// orphans are the records that are in no chain.
func (p *pair) orphans() []api.Ref {
	var used, list []api.Ref
	for no := range p.f.Pages {
		refs, e := chain.Refs(p.b.Cache(), uint16(no))
		chain.Refs(p.p.b.Cache(), uint16(no))
		if e != api.OK {
			return nil
		}
		used = append(used, refs...)
	}
	for _, at := range p.b.Room().Refs() {
		if !slices.Contains(used, at) {
			list = append(list, at)
		}
	}
	return list
}

func (p *pair) step(x *rand.Rand) {
	p.t.Helper()
	no := uint16(x.Intn(p.f.Pages + 1))
	var list []api.Version
	if int(no) < p.f.Pages {
		list = p.has[no]
	} else {
		list = []api.Version{{}}
	}
	switch x.Intn(6) {
	case 0, 1, 2:
		ts, body := list[0].Ts+uint32(x.Intn(4)), anyBody(x, list[0].Body)
		e := Install(p.b, no, ts, body)
		p.same("Install", e, p.p.install(no, ts, body))
		if e == api.OK {
			p.has[no] = append([]api.Version{version(ts, body)}, list...)
		}
	case 3, 4:
		e := Pop(p.b, no)
		p.same("Pop", e, p.p.pop(no))
		if e == api.OK {
			p.has[no] = list[1:]
		}
	case 5:
		at := api.Ref{Page: uint16(x.Intn(2)) * uint16(p.f.Undo+1), Slot: uint8(x.Intn(16))}
		if lost := p.orphans(); len(lost) > 0 {
			at = lost[x.Intn(len(lost))]
		}
		p.same("Free", Free(p.b, at), p.p.free(at))
	}
}

// stir does what others may do with the parts.
func (p *pair) stir(x *rand.Rand) {
	ids := pagesOf(p.f)
	id := ids[x.Intn(len(ids))]
	fails, fuse := []int{1 + x.Intn(6), 1 + x.Intn(12)}, x.Intn(5)*x.Intn(5)
	n, from := x.Intn(8), x.Intn(len(ids))
	p.both(func(r *rig) {
		switch n {
		case 0:
			r.b.Cache().Write(id)
		case 1:
			r.b.Cache().Fetch(id)
		case 2:
			for _, id := range ids[from:min(from+4, len(ids))] {
				r.b.Cache().Fetch(id)
			}
		case 3, 4, 5:
			for r.b.Cache().Unpin(id) == api.OK {
			}
		case 6:
			if r.b.Log().Flush() == api.OK {
				r.b.Log().Trim(r.b.Log().End())
			}
		case 7:
			r.d.Crash(nil)
			r.d.Plan(fails, fuse)
		}
	})
}

// wantAll looks, without faults, whether each page has the versions that it should have.
func (p *pair) wantAll() {
	p.t.Helper()
	p.both(func(r *rig) {
		for _, id := range pagesOf(r.f) {
			for r.b.Cache().Unpin(id) == api.OK {
			}
		}
		r.d.Crash(nil)
		for no, list := range p.has {
			r.wantVersions("told anew", uint16(no), list...)
		}
	})
}

func TestToldAnew(t *testing.T) { // P21.1, P21.2, P21.3
	errs := make(map[api.Errno]int)
	for seed := range int64(60) {
		x := rand.New(rand.NewSource(seed))
		f := api.Config{Pages: 1 + x.Intn(6), Undo: 1 + x.Intn(3), Log: 2 + x.Intn(20)}
		p := pairOf(t, []int{4, 5, 12}[seed%3], f)
		for i := range 400 {
			if x.Intn(3) == 0 {
				p.stir(x)
			} else {
				p.step(x)
			}
			if i%10 == 9 {
				p.wantAll()
			}
			if t.Failed() {
				t.FailNow()
			}
		}
		for e, n := range p.errs {
			errs[e] += n
		}
	}
	for _, e := range []api.Errno{api.OK, api.ErrArg, api.ErrIO, api.ErrDown, api.ErrFull, api.ErrNoFrame} {
		if errs[e] < 50 {
			t.Errorf("%d was answered only %d times", e, errs[e])
		}
	}
}

func TestThereAndBack(t *testing.T) { // P21.3: behind Pop of what was installed the page has what it had
	for seed := range int64(40) {
		x := rand.New(rand.NewSource(seed))
		r := rigOf(t, 4+x.Intn(4), 4, 3, 400)
		has := make([][]api.Version, 4)
		for no := range has {
			has[no] = []api.Version{{}}
		}
		for range 150 {
			no := x.Intn(4)
			list := has[no]
			v := version(list[0].Ts+1+uint32(x.Intn(9)), anyBody(x, list[0].Body))
			switch e := Install(r.b, uint16(no), v.Ts, v.Body); {
			case e == api.OK && x.Intn(2) == 0:
				has[no] = append([]api.Version{v}, list...)
			case e == api.OK:
				r.pop(uint16(no))
			case e == api.ErrFull:
				busy := slices.IndexFunc(has, func(l []api.Version) bool { return len(l) > 1 })
				r.pop(uint16(busy))
				has[busy] = has[busy][1:]
			default:
				t.Fatalf("Install = %d", e)
			}
			live := 0
			for no, list := range has {
				r.wantVersions("there and back", uint16(no), list...)
				live += len(list) - 1
			}
			if r.b.Room().Live() != live || t.Failed() {
				t.Fatalf("%d records, want %d", r.b.Room().Live(), live)
			}
			if r.b.Log().Free() < 50 {
				r.b.Log().Flush()
				r.b.Log().Trim(r.b.Log().End())
			}
		}
	}
}
