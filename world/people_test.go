package world

import (
	"math/rand"
	"slices"
	"testing"

	"varve/api"
	"varve/cache"
	"varve/chain"
	"varve/hist"
	"varve/model"
	"varve/page"
	"varve/seal"
)

// people are a world's clients, who do as they like, held against chapter 25's machine, life by life.
type people struct {
	t      *testing.T
	x      *rand.Rand
	c      api.Config
	w      *World
	frames int // of the store that is open
	m      *model.Model
	life   int
	before uint64 // the transactions that the machine had begun ahead of this life,
	begun  uint64 // and in this one
	own    [10]uint64
	under  []int             // the places in told of what isn't answered yet
	doubt  []int             // and of commits that may be there, or not
	found  map[int]api.Reply // of those the ones that an opening has shown to be there
	faulty bool              // an operation of the disk may fail
	done   map[[2]int]int    // how often calls of a kind were answered with an error
}

func newPeople(t *testing.T, seed int64, c api.Config, frames int) *people {
	t.Helper()
	w := New(c, frames)
	if w == nil {
		t.Fatalf("New(%+v, %d) is nil", c, frames)
	}
	return &people{
		t: t, x: rand.New(rand.NewSource(seed)), c: c, w: w, frames: frames, m: model.New(c.Pages, c.MaxTs),
		found: make(map[int]api.Reply), done: make(map[[2]int]int),
	}
}

// do lets an event happen, and holds all that it has changed against the machine.
func (p *people) do(e api.Event) {
	p.t.Helper()
	n := len(p.w.told)
	if e.Kind == api.ERound && e.A > 1 {
		p.t.Fatal("nobody could tell in which order the answers came")
	}
	p.w.Do(e)
	for i := n; i < len(p.w.told); i++ {
		p.under = append(p.under, i)
	}
	switch {
	case e.Kind == api.ECrash:
		p.crashed()
	case e.Kind == api.EFail:
		p.faulty = true
	case p.w.life > p.life:
		p.opened()
	}
	// Those who are answered in one round are so in the order of their numbers.
	for who := range api.MaxClients {
		p.under = slices.DeleteFunc(p.under, func(i int) bool {
			told := p.w.told[i]
			if told.Who != who || told.Open {
				return false
			}
			p.answered(i, told)
			return true
		})
	}
	p.wantLogFirst()
}

// crashed notes which commits may be there.
func (p *people) crashed() {
	for _, i := range p.under {
		if p.w.told[i].Call.Kind == api.CCommit {
			p.doubt = append(p.doubt, i)
		}
	}
	p.under = nil
	p.own = [10]uint64{}
	p.faulty = false
}

// opened holds what is there against what was committed.
func (p *people) opened() {
	p.t.Helper()
	p.life = p.w.life
	p.faulty = false
	p.w.disk.Plan(nil, 0) // what was laid for the opening
	if last := p.w.store.Oracle().Last(); last == p.m.Last()+1 {
		p.settle()
	}
	for txn := p.before + 1; txn <= p.before+p.begun; txn++ {
		p.m.Do(abortOf(txn))
	}
	p.before, p.begun, p.doubt = p.before+p.begun, 0, nil
	p.wantPages("opened")
}

// settle finds the commit that was under way and is there.
func (p *people) settle() {
	p.t.Helper()
	got, e := p.w.Pages()
	if e != api.OK {
		p.t.Fatalf("Pages: %d", e)
	}
	for _, i := range p.doubt {
		txn := p.w.told[i].Call.Txn + p.before
		if p.after(txn, got) {
			p.found[i] = p.m.Do(commitOf(txn))
			return
		}
	}
	p.t.Fatalf("a commit is there, and is none of %d that were under way: %s", len(p.doubt), briefly(got))
}

// after tells whether pages are as they would be behind a transaction's commit, and there may be one.
func (p *people) after(txn uint64, pages []api.Version) bool {
	changed := false
	for no, v := range pages {
		want := p.m.At(uint16(no), p.m.Last())
		if v.Ts <= p.m.Last() {
			if v != want {
				return false
			}
			continue
		}
		// What the transaction has written is read with its start: of a page that it hasn't a newer version would be a conflict.
		got := p.m.Do(readOf(txn, uint16(no)))
		if got.Err != api.OK || v.Body != got.Body || want.Ts > got.Ts {
			return false
		}
		changed = true
	}
	return changed
}

func (p *people) wantPages(name string) {
	p.t.Helper()
	got, e := p.w.Pages()
	if e != api.OK || p.w.store.Oracle().Last() != p.m.Last() {
		p.t.Fatalf("%s: Pages: %d; Last = %d, want %d", name, e, p.w.store.Oracle().Last(), p.m.Last())
	}
	for no, v := range got {
		if want := p.m.At(uint16(no), p.m.Last()); v != want {
			p.t.Fatalf("%s: the page %d is of %d, want %d", name, no, v.Ts, want.Ts)
		}
	}
}

// answered holds an answer against the machine's.
func (p *people) answered(i int, told api.Told) {
	p.t.Helper()
	c, got := told.Call, told.Reply
	p.done[[2]int{int(c.Kind), int(got.Err)}]++
	if c.Kind == api.CCommit || c.Kind == api.CAbort {
		p.own[told.Who] = 0
	}
	switch got.Err {
	case api.ErrHalted:
		if c.Kind == api.CCommit {
			p.doubt = append(p.doubt, i)
		}
		return
	case api.ErrNoFrame:
		if p.frames > 4 {
			p.t.Fatalf("%s with %d frames", show(told), p.frames)
		}
	case api.ErrIO:
		if !p.faulty {
			p.t.Fatalf("%s, and nothing was to fail", show(told))
		}
	case api.ErrFull:
		if c.Kind != api.CCommit && c.Kind != api.CVacuum {
			p.t.Fatalf("%s", show(told))
		}
	case api.ErrBusy:
		if c.Kind != api.CClose {
			p.t.Fatalf("%s", show(told))
		}
	default:
		p.compare(told)
		return
	}
	if c.Kind == api.CCommit {
		p.m.Do(abortOf(c.Txn + p.before))
	}
}

func (p *people) compare(told api.Told) {
	p.t.Helper()
	c, got := told.Call, told.Reply
	if c.Kind == api.CClose {
		if got != (api.Reply{}) {
			p.t.Fatalf("%s", show(told))
		}
		return
	}
	c.Txn += p.before
	want := p.m.Do(c)
	if c.Kind == api.CBegin && want.Err == api.OK {
		want.Txn -= p.before
		p.begun++
		p.own[told.Who] = got.Txn
	}
	if got != want {
		p.t.Fatalf("%s, want Err %d, Txn %d, Ts %d", show(told), want.Err, want.Txn, want.Ts)
	}
}

// wantLogFirst fails, if a page is on the disk with a change that the log doesn't tell for sure.
func (p *people) wantLogFirst() {
	p.t.Helper()
	if p.w.store == nil {
		return
	}
	durable := p.w.store.State().Base().Log().Durable()
	for _, id := range pagesOf(p.c) {
		stamp, payload, ok := seal.Open(p.w.disk.Seen(cache.Place(p.c.Pages, id)))
		if ok && (page.LSN(payload) >= durable || stamp != page.LSN(payload)) {
			p.t.Fatalf("%v is on the disk with a change at %d, and the log lasts up to %d", id, page.LSN(payload), durable)
		}
	}
}

// any is a call that a client may want.
func (p *people) any(who int) api.Call {
	page := uint16(p.x.Intn(p.c.Pages))
	s := []string{"", "a", "xyz", whole(byte('a' + p.x.Intn(26)))}[p.x.Intn(4)]
	off := p.x.Intn(65 - len(s))
	switch k := p.x.Intn(40); {
	case k == 0:
		return of(api.CVacuum)
	case k == 1:
		return of(api.CCheckpoint)
	case p.own[who] == 0:
		return begin()
	case k < 12:
		return readOf(0, page)
	case k < 29:
		return writeOf(0, page, off, s)
	case k < 38:
		return commitOf(0)
	}
	return abortOf(0)
}

// event lets somebody ask, or go on.
func (p *people) event() {
	p.t.Helper()
	who := p.x.Intn(10)
	switch k := p.x.Intn(8); {
	case !p.w.store.Busy(who) && k < 4:
		p.do(ask(who, p.any(who)))
	case k == 7:
		p.do(round(1))
	default:
		p.do(step(p.x.Intn(10)))
	}
}

// keep is which of what is pending is kept, and perhaps more or less than that.
func (p *people) keep() []bool {
	list := make([]bool, max(p.w.disk.Pending()+p.x.Intn(5)-2, 0))
	style := p.x.Intn(4)
	for i := range list {
		list[i] = style == 0 || style > 1 && p.x.Intn(2) == 0
	}
	return list
}

// again lets the power go, and opens the store; that may be broken off, too.
func (p *people) again(broken bool) {
	p.t.Helper()
	for range 30 {
		p.do(crash(p.keep()...))
		if broken && p.x.Intn(3) > 0 {
			p.do(fuse(1 + p.x.Intn(60)))
		} else if broken && p.x.Intn(4) == 0 {
			p.do(fail(1 + p.x.Intn(60)))
		}
		if p.open(); p.w.store != nil {
			return
		}
		broken = broken && p.x.Intn(8) > 0
	}
	p.t.Fatal("it can't be opened")
}

// open opens the store with as many frames as before, or some others.
func (p *people) open() {
	p.t.Helper()
	a := 0
	if p.x.Intn(2) == 0 {
		a = 1 + p.x.Intn(28)
	}
	p.frames = p.w.frames
	if a > 0 {
		p.frames = 4 + a
	}
	p.do(open(a))
}

// drain goes round till all calls are answered.
func (p *people) drain() {
	p.t.Helper()
	for range 1200 {
		if len(p.under) == 0 {
			return
		}
		p.do(round(1))
	}
	p.t.Fatalf("%s doesn't end", show(p.w.told[p.under[0]]))
}

// history is all that was told, with what openings have shown.
func (p *people) history() []api.Told {
	list := p.w.Told()
	for i, r := range p.found {
		list[i].Open, list[i].Reply = false, r
	}
	return list
}

func (p *people) wantNothingShown() {
	p.t.Helper()
	if got, e := hist.Check(hist.Of(p.history())); got != 0 || e != api.OK {
		p.t.Errorf("the history shows %d, %d", got, e)
	}
}

// wantVacuumed fails, unless a vacuum leaves each page one version.
func (p *people) wantVacuumed() {
	p.t.Helper()
	for who := range api.MaxClients {
		if p.own[who] != 0 {
			p.do(ask(who, abortOf(0)))
		}
	}
	p.drain()
	for range 50 {
		p.do(ask(0, of(api.CCheckpoint)))
		p.drain()
		p.do(ask(0, of(api.CVacuum)))
		p.drain()
		if got := p.w.told[len(p.w.told)-1].Reply.Err; got == api.OK {
			break
		} else if got != api.ErrFull {
			p.t.Fatalf("CVacuum = %d", got)
		}
	}
	for no := range p.c.Pages {
		if list, e := chain.Versions(p.w.store.State().Base().Cache(), uint16(no)); e != api.OK || len(list) != 1 {
			p.t.Errorf("the page %d has %d versions, %d", no, len(list), e)
		}
	}
	if n := p.w.store.State().Base().Room().Live(); n != 0 {
		p.t.Errorf("%d records are live", n)
	}
	p.wantPages("vacuumed")
}
