package store

import (
	"iter"
	"maps"
	"math/rand"
	"slices"
	"strconv"
	"testing"

	"varve/api"
	"varve/chain"
	"varve/commit"
	"varve/disk"
	"varve/oracle"
	"varve/restart"
	"varve/vacuum"
)

// plain is the chapter told anew, over a disk of its own: each call is a function from its beginning to its end, that
// stands still behind each of its steps.
type plain struct {
	state  *restart.State
	o      *oracle.Oracle
	line   []int
	calls  [10]*running
	wrote  map[uint64]map[uint16]api.Body
	halted bool
}

type running struct {
	api.Call
	who   int
	reply api.Reply
	next  func() (struct{}, bool)
	stop  func()
}

// stopped is what a call's function is broken off by.
type stopped struct{}

func plainOpen(d *disk.Disk, frames int) (*plain, api.Errno) {
	state, e := restart.Open(d, frames)
	if e != api.OK {
		return nil, e
	}
	o := oracle.New(state.Master().Last, state.Master().Config.MaxTs)
	return &plain{state: state, o: o, wrote: make(map[uint64]map[uint16]api.Body)}, api.OK
}

func (p *plain) ask(who int, c api.Call) api.Errno {
	if p.halted {
		return api.ErrHalted
	}
	page := c.Kind == api.CRead || c.Kind == api.CWrite
	if who < 0 || who > 9 || c.Kind > 7 || page && int(c.Page) >= p.state.Master().Config.Pages {
		return api.ErrArg
	}
	if c.Kind == api.CWrite && (c.Off < 0 || c.Off > 64 || c.Off+len(c.S) > 64) {
		return api.ErrArg
	}
	if p.calls[who] != nil {
		return api.ErrBusy
	}
	if c.Kind >= 1 && c.Kind <= 4 {
		if !slices.Contains(p.o.Live(), c.Txn) {
			return api.ErrTxn
		}
		for _, r := range p.calls {
			if r != nil && r.Kind >= 1 && r.Kind <= 4 && r.Txn == c.Txn {
				return api.ErrBusy
			}
		}
	}
	r := &running{Call: c, who: who}
	r.next, r.stop = iter.Pull(func(yield func(struct{}) bool) {
		defer func() {
			if x := recover(); x != nil && x != (stopped{}) {
				panic(x)
			}
		}()
		r.reply = p.run(r, func() {
			if !yield(struct{}{}) {
				panic(stopped{})
			}
		})
	})
	p.calls[who] = r
	return api.OK
}

func (p *plain) busy(who int) bool { return who >= 0 && who < 10 && p.calls[who] != nil }

func (p *plain) ready(who int) bool {
	return p.busy(who) && slices.Index(p.line, who) <= 0 // not in it, or the first one
}

func (p *plain) step(who int) (api.Reply, bool) {
	if !p.ready(who) {
		return api.Reply{}, false
	}
	r := p.calls[who]
	if p.halted {
		r.stop()
		r.reply = fails(api.ErrHalted)
	} else if _, more := r.next(); more {
		return api.Reply{}, false
	}
	p.calls[who] = nil
	p.line = slices.DeleteFunc(p.line, func(x int) bool { return x == who })
	return r.reply, true
}

func (p *plain) run(r *running, step func()) api.Reply {
	switch r.Kind {
	case api.CBegin:
		txn, start, e := p.o.Begin()
		return api.Reply{Err: e, Txn: txn, Ts: start}
	case api.CRead:
		v, e := p.sees(r, step)
		return api.Reply{Err: e, Ts: v.Ts, Body: v.Body}
	case api.CWrite:
		return p.write(r, step)
	case api.CCommit:
		return p.commit(r, step)
	case api.CAbort:
		p.end(r.Txn)
		return api.Reply{}
	case api.CVacuum:
		return fails(p.vacuum(r, step))
	}
	return fails(p.checkpoint(r, step))
}

func (p *plain) end(txn uint64) {
	p.o.End(txn)
	delete(p.wrote, txn)
}

func (p *plain) sees(r *running, step func()) (api.Version, api.Errno) {
	start, _ := p.o.Start(r.Txn)
	if body, ok := p.wrote[r.Txn][r.Page]; ok {
		return api.Version{Ts: start, Body: body}, api.OK
	}
	c := p.state.Base().Cache()
	v, e := chain.Newest(c, r.Page)
	if e == api.OK && v.Ts > p.o.Last() {
		v, e = chain.Step(c, r.Page, v)
	}
	for e == api.OK && v.Ts > start {
		step()
		v, e = chain.Step(c, r.Page, v)
	}
	if e != api.OK {
		return api.Version{}, e
	}
	return api.Version{Ts: v.Ts, Body: v.Body}, api.OK
}

func (p *plain) write(r *running, step func()) api.Reply {
	mine := p.wrote[r.Txn]
	if _, ok := mine[r.Page]; !ok && len(mine) == 4 {
		return fails(api.ErrMany)
	}
	v, e := p.sees(r, step)
	if e != api.OK {
		return fails(e)
	}
	if mine == nil {
		mine = make(map[uint16]api.Body)
		p.wrote[r.Txn] = mine
	}
	copy(v.Body[r.Off:], r.S)
	mine[r.Page] = v.Body
	return api.Reply{}
}

func (p *plain) full() bool { return p.state.Base().Log().Free() < 48 }

func (p *plain) commit(r *running, step func()) api.Reply {
	start, _ := p.o.Start(r.Txn)
	mine := p.wrote[r.Txn]
	pages := slices.Sorted(maps.Keys(mine))
	if len(pages) == 0 {
		p.end(r.Txn)
		return at(start)
	}
	p.line = append(p.line, r.who)
	step()
	b := p.state.Base()
	ts, e := p.o.Next()
	if e == api.OK && p.full() {
		e = api.ErrFull
	}
	if e != api.OK {
		p.end(r.Txn)
		return fails(e)
	}
	for _, no := range pages {
		step()
		if _, e := b.Cache().Fetch(data(no)); e != api.OK {
			p.end(r.Txn)
			return fails(e)
		}
		defer b.Cache().Unpin(data(no))
		if v, _ := chain.Newest(b.Cache(), no); v.Ts > start {
			p.end(r.Txn)
			return fails(api.ErrConflict)
		}
	}
	for i, no := range pages {
		step()
		if e := commit.Install(b, no, ts, mine[no]); e != api.OK {
			p.end(r.Txn)
			for i--; i >= 0; i-- {
				if commit.Pop(b, pages[i]) != api.OK {
					p.halted = true
					return fails(api.ErrHalted)
				}
			}
			return fails(e)
		}
	}
	step()
	if b.Commit(ts) != api.OK {
		p.halted = true
		return fails(api.ErrHalted)
	}
	p.o.Publish(ts)
	p.end(r.Txn)
	return at(ts)
}

func (p *plain) vacuum(r *running, step func()) api.Errno {
	p.line = append(p.line, r.who)
	b := p.state.Base()
	// each of these is a step, and behind it each place that it tells
	parts := []func() ([]api.Ref, api.Errno){}
	for no := range b.Config().Pages {
		parts = append(parts, func() ([]api.Ref, api.Errno) { return vacuum.Cut(b, uint16(no), p.o.Horizon()) })
	}
	parts = append(parts, func() ([]api.Ref, api.Errno) { return vacuum.Orphans(b) })
	for _, part := range parts {
		if step(); p.full() {
			return api.ErrFull
		}
		places, e := part()
		if e != api.OK {
			return e
		}
		for _, at := range places {
			if step(); p.full() {
				return api.ErrFull
			}
			if e := commit.Free(b, at); e != api.OK {
				return e
			}
		}
	}
	if step(); p.full() {
		return api.ErrFull
	}
	return api.OK
}

func (p *plain) checkpoint(r *running, step func()) api.Errno {
	c := p.state.Base().Cache()
	for _, x := range c.Dirty() {
		if slices.ContainsFunc(c.Dirty(), func(y api.Dirt) bool { return y.Page == x.Page }) {
			if e := c.Write(x.Page); e != api.OK {
				return e
			}
		}
		step()
	}
	for who, x := range p.calls {
		if r.Kind == api.CClose && x != nil && who != r.who {
			return api.ErrBusy
		}
	}
	e := p.state.Mark(p.o.Last())
	if r.Kind == api.CClose && e == api.OK {
		p.halted = true
	}
	return e
}

// pair is a store, and the same told anew.
type pair struct {
	t    *testing.T
	c    api.Config
	d, x *disk.Disk
	s    *Store
	p    *plain
	seen map[string]int // what was answered how often

	seldom int // one of so many calls is a checkpoint
}

func (p *pair) open(frames int) {
	p.t.Helper()
	var got, want api.Errno
	p.s, got = Open(p.d, frames)
	p.p, want = plainOpen(p.x, frames)
	if got != want || (p.s == nil) != (p.p == nil) {
		p.t.Fatalf("Open = %d, want %d", got, want)
	}
}

func (p *pair) ask(who int, c api.Call) {
	p.t.Helper()
	got, want := p.s.Ask(who, c), p.p.ask(who, c)
	p.seen["Ask "+strconv.Itoa(int(got))]++
	if got != want {
		p.t.Fatalf("Ask(%d, %+v) = %d, want %d", who, c, got, want)
	}
}

func (p *pair) step(who int) {
	p.t.Helper()
	if p.s.Busy(who) != p.p.busy(who) || p.s.Ready(who) != p.p.ready(who) {
		p.t.Fatalf("%d: Busy %v, Ready %v, want %v, %v", who, p.s.Busy(who), p.s.Ready(who), p.p.busy(who), p.p.ready(who))
	}
	kind := "none"
	if p.s.Busy(who) {
		kind = strconv.Itoa(int(p.s.calls[who].Kind))
	}
	got, done := p.s.Step(who)
	want, over := p.p.step(who)
	if got != want || done != over {
		p.t.Fatalf("Step(%d) of a call %s = %s, %v, want %s, %v", who, kind, show(got), done, show(want), over)
	}
	if done {
		p.seen[kind+" "+strconv.Itoa(int(got.Err))]++
	}
	if p.d.Ops() != p.x.Ops() || p.s.Halted() != p.p.halted || !slices.Equal(p.s.turn.Line(), p.p.line) {
		p.t.Fatalf("a step of a call %s: %d operations, want %d", kind, p.d.Ops(), p.x.Ops())
	}
}

// same holds all that can be told of both against each other.
func (p *pair) same() {
	p.t.Helper()
	for i := range p.d.Size() {
		if p.d.Seen(i) != p.x.Seen(i) || p.d.Sure(i) != p.x.Sure(i) {
			p.t.Fatalf("the block %d isn't as it should be", i)
		}
	}
	if p.s == nil {
		return
	}
	if p.s.State().Master() != p.p.state.Master() || p.s.Oracle().Last() != p.p.o.Last() || p.s.Oracle().Horizon() != p.p.o.Horizon() {
		p.t.Fatal("the master or the oracle isn't as it should be")
	}
	if !slices.Equal(p.s.Oracle().Live(), p.p.o.Live()) {
		p.t.Fatalf("%v are live, want %v", p.s.Oracle().Live(), p.p.o.Live())
	}
	a, b := p.s.State().Base(), p.p.state.Base()
	if a.Log().End() != b.Log().End() || a.Log().Free() != b.Log().Free() || a.Log().Durable() != b.Log().Durable() {
		p.t.Fatalf("the log ends at %d, want %d", a.Log().End(), b.Log().End())
	}
	if !slices.Equal(a.Cache().Dirty(), b.Cache().Dirty()) || !slices.Equal(a.Room().Refs(), b.Room().Refs()) {
		p.t.Fatal("other pages are dirty, or the room knows other records")
	}
	for _, id := range pagesOf(p.c) {
		if a.Cache().Resident(id) != b.Cache().Resident(id) || a.Cache().Pins(id) != b.Cache().Pins(id) {
			p.t.Fatalf("%v is held %d times, want %d", id, a.Cache().Pins(id), b.Cache().Pins(id))
		}
	}
}

// anyCall is a call, most often one that there may be.
func (p *pair) anyCall(x *rand.Rand) (int, api.Call) {
	c := api.Call{Kind: []uint8{0, 0, 1, 1, 1, 2, 2, 2, 2, 2, 2, 3, 3, 3, 4, 5, 5}[x.Intn(17)], Page: uint16(x.Intn(p.c.Pages)), Off: x.Intn(8)}
	c.S = []string{"", "ab", "xyz", whole(byte('a' + x.Intn(20)))}[x.Intn(4)]
	c.S = c.S[:min(len(c.S), 64-c.Off)]
	if live := p.s.Oracle().Live(); len(live) > 0 {
		c.Txn = live[x.Intn(len(live))]
	}
	if x.Intn(p.seldom) == 0 {
		c.Kind = api.CCheckpoint
	}
	switch x.Intn(150) {
	case 0:
		c.Kind = api.CClose
	case 1:
		c.Kind = 8 + uint8(x.Intn(240))
	case 2:
		c.Page += uint16(p.c.Pages)
	case 3:
		c.Off = x.Intn(70) - 2
	case 4:
		c.Txn += 9
	}
	return x.Intn(11) - x.Intn(30)/29, c
}

// stir does something to the disk.
func (p *pair) stir(x *rand.Rand) {
	keep := make([]bool, p.d.Pending())
	for i := range keep {
		keep[i] = x.Intn(3) > 0
	}
	for _, d := range []*disk.Disk{p.d, p.x} {
		d.Crash(keep)
		d.Plan(nil, 0)
	}
	p.s, p.p = nil, nil
}

func (p *pair) plan(x *rand.Rand) {
	plan, fuse := []int{1 + x.Intn(20), 1 + x.Intn(40)}, 0
	if x.Intn(4) == 0 {
		plan, fuse = []int{1 + x.Intn(6), 5 + x.Intn(6), 9 + x.Intn(6), 14}, x.Intn(2)*x.Intn(30)
	}
	p.d.Plan(plan, fuse)
	p.x.Plan(plan, fuse)
}

// event goes on with one or the other client, or lets one ask; something may happen to the disk.
func (p *pair) event(x *rand.Rand, faults bool) {
	p.t.Helper()
	switch k := x.Intn(800); {
	case p.s == nil:
		p.open(4 + x.Intn(5)*x.Intn(3))
		p.same()
	case p.d.Down() || k == 0 && x.Intn(4) == 0 || p.s.Halted() && k < 60:
		p.stir(x)
	case k < 8 && faults:
		p.plan(x)
	case k < 250:
		p.ask(p.anyCall(x))
	case k < 260: // behind a round each call is somewhere else
		for who := range 10 {
			p.step(who)
		}
	default:
		p.step(x.Intn(10))
	}
}

func TestToldAnew(t *testing.T) { // P24.1, P24.2, P24.3, P24.4
	seen := make(map[string]int)
	for seed := range int64(100) {
		x := rand.New(rand.NewSource(seed))
		c := api.Config{Pages: 1 + x.Intn(8), Undo: 1 + x.Intn(6), Log: 64 + x.Intn(20), MaxTs: uint32(5 + x.Intn(3)*x.Intn(100))}
		p := &pair{t: t, c: c, d: formatted(t, c), x: formatted(t, c), seen: seen, seldom: 10 + x.Intn(150)}
		for n := range 5000 {
			p.event(x, seed%3 > 0)
			if n%50 == 0 {
				p.same()
			}
		}
	}
	for _, name := range []string{
		"Ask 0", "Ask 1", "Ask 9", "Ask 11", "Ask 12",
		"0 0", "0 10", "0 12", "1 0", "1 3", "1 12", "2 0", "2 3", "2 10", "2 12",
		"3 0", "3 3", "3 5", "3 7", "3 8", "3 12", "4 0", "5 0", "5 3", "5 5", "5 12", "6 0", "6 3", "6 12", "7 0", "7 11",
	} {
		if seen[name] < 3 {
			t.Errorf("%s was answered only %d times", name, seen[name])
		}
	}
}
