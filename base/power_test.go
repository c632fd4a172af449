package base

import (
	"math/rand"
	"slices"
	"testing"

	"varve/api"
	"varve/apply"
	"varve/cache"
	"varve/disk"
	"varve/page"
	"varve/seal"
)

// act is a step of a run: a change, a Commit, or a page that is written back.
type act struct {
	change api.Rec
	commit uint32
	write  api.PageID
	kind   int
}

const (
	aChange = iota
	aCommit
	aWrite
)

// moment is all pages behind a change, and where the log tells of it.
type moment struct {
	lsn   uint64
	pages []api.Payload
}

// life is a store's run, and how all pages were behind each of its changes.
type life struct {
	*rig
	now  []moment
	errs int
}

func lifeOf(t *testing.T, frames int, f api.Config) *life {
	t.Helper()
	l := &life{rig: rigOf(t, frames, f.Pages, f.Undo, f.Log)}
	var blank []api.Payload
	for _, id := range pagesOf(l.f) {
		blank = append(blank, page.Blank(id))
	}
	l.now = []moment{{pages: blank}}
	return l
}

// change makes a change, and keeps how the pages are then.
func (l *life) change(r api.Rec) {
	l.t.Helper()
	end := l.b.Log().End()
	if e := l.b.Change(r); e != api.OK {
		if l.b.Log().End() != end {
			l.t.Fatalf("Change = %d, and something was laid", e)
		}
		l.errs++
		return
	}
	pages := slices.Clone(l.now[len(l.now)-1].pages)
	at := slices.Index(pagesOf(l.f), r.Page)
	p, e := apply.Redo(r.Page, pages[at], api.Entry{LSN: end, Rec: r})
	l.want("Redo", e, api.OK)
	pages[at] = p
	l.now = append(l.now, moment{lsn: end, pages: pages})
}

func (l *life) run(list []act) {
	l.t.Helper()
	for _, a := range list {
		switch a.kind {
		case aChange:
			l.change(a.change)
		case aCommit:
			l.b.Commit(a.commit)
		case aWrite:
			l.b.Cache().Write(a.write)
		}
	}
}

// lasted is how many changes the log tells for sure.
func (l *life) lasted() int {
	n := 0
	for _, m := range l.now[1:] {
		if m.lsn < l.b.Log().Durable() {
			n++
		}
	}
	return n
}

// onDisk is what a page's block holds; noughts, if its sectors don't belong together.
func onDisk(d *disk.Disk, f api.Config, id api.PageID) api.Payload {
	_, p, ok := seal.Open(d.Sure(cache.Place(f.Pages, id)))
	if !ok {
		return api.Payload{}
	}
	return p
}

// wantMoment crashes, and holds what Replay tells of all pages against how they were behind a change.
func (l *life) wantMoment(name string, keep []bool) {
	l.t.Helper()
	lasted := l.lasted()
	l.d.Crash(keep)
	entries := entriesOn(l.t, l.d, l.f)
	n := 0
	for _, x := range entries {
		if x.Rec.Kind != api.RCommit {
			n++
		}
	}
	if n < lasted || n >= len(l.now) {
		l.t.Fatalf("%s, %v is kept: of %d changes, %d of which lasted, the log tells %d", name, keep, len(l.now)-1, lasted, n)
	}
	for i, id := range pagesOf(l.f) {
		if apply.Replay(id, onDisk(l.d, l.f, id), entries) != l.now[n].pages[i] {
			l.t.Fatalf("%s, %v is kept: %v isn't as it was behind the change %d", name, keep, id, n)
		}
	}
}

// masks are which of n sectors are kept: all ways, of a block's; of more than these some.
func masks(n int, x *rand.Rand) [][]bool {
	var list [][]bool
	if n <= 4 {
		for m := range 1 << n {
			var keep []bool
			for i := range n {
				keep = append(keep, m>>i&1 == 1)
			}
			list = append(list, keep)
		}
		return list
	}
	list = append(list, nil)
	for i := range n {
		one, others := make([]bool, n), make([]bool, n)
		for j := range n {
			one[j], others[j] = i == j, i != j
		}
		list = append(list, one, others)
	}
	for range 12 {
		keep := make([]bool, n)
		for i := range keep {
			keep[i] = x.Intn(4) > 0
		}
		list = append(list, keep)
	}
	return list
}

func do(list ...api.Rec) []act {
	var acts []act
	for _, r := range list {
		acts = append(acts, act{change: r})
	}
	return acts
}

// plainRun is changes of all kinds, of more pages than there are frames, with commits, and pages that are written back.
func plainRun() []act {
	var list []act
	list = append(list, do(setTo(0, 1), add(0, 0, 20), setTo(1, 1), add(0, 1, 40), setTo(2, 1), setTo(0, 2))...)
	list = append(list, act{kind: aCommit, commit: 1})
	list = append(list, do(setTo(3, 2), add(1, 0, 66), cut(0, 1), setTo(4, 2), setTo(0, 3), add(1, 1, 66), free(0, 0))...)
	list = append(list, act{kind: aWrite, write: data(0)}, act{kind: aWrite, write: undo(1)})
	list = append(list, do(setTo(0, 4), add(1, 2, 30), free(1, 1), setTo(1, 4), free(0, 1))...)
	list = append(list, act{kind: aCommit, commit: 4}, act{kind: aWrite, write: data(0)}, act{kind: aCommit, commit: 5})
	list = append(list, do(setTo(0, 6), setTo(0, 7), add(0, 0, 1), setTo(2, 6), setTo(3, 6), setTo(4, 6), setTo(1, 6))...)
	return append(list, act{kind: aCommit, commit: 7})
}

// opsOf is how many operations a run takes, if nothing fails.
func opsOf(t *testing.T, frames int, f api.Config, list []act) int {
	t.Helper()
	l := lifeOf(t, frames, f)
	l.run(list)
	if l.errs > 0 {
		t.Fatalf("of a run %d changes were refused", l.errs)
	}
	n := l.d.Ops()
	l.wantMoment("nothing fails", nil)
	return n
}

func TestPower(t *testing.T) { // P20.5: the power goes at each operation, whatever sectors are kept
	f := api.Config{Pages: 5, Undo: 2, Log: 64}
	x := rand.New(rand.NewSource(20))
	list := plainRun()
	for _, frames := range []int{4, 5, 8} {
		for fuse := 1; fuse <= opsOf(t, frames, f, list); fuse++ {
			try := func() *life {
				l := lifeOf(t, frames, f)
				l.d.Plan(nil, fuse)
				l.run(list)
				return l
			}
			for _, keep := range masks(try().d.Pending(), x) {
				try().wantMoment("the power goes", keep)
			}
		}
	}
}

func TestPowerBehindFailures(t *testing.T) { // P20.5: an operation fails, and later the power goes
	f := api.Config{Pages: 5, Undo: 2, Log: 64}
	x := rand.New(rand.NewSource(21))
	list := plainRun()
	n := opsOf(t, 4, f, list)
	for fails := 1; fails <= n; fails++ {
		for range 20 {
			l := lifeOf(t, 4, f)
			// The fuse is mostly near, as more may be pending then.
			l.d.Plan([]int{fails, fails + x.Intn(4)}, min(fails+1+x.Intn(8), 1+x.Intn(2*n)))
			l.runAsFar(list)
			keep := make([]bool, l.d.Pending())
			for i := range keep {
				keep[i] = x.Intn(3) > 0
			}
			l.wantMoment("a failure ahead of it", keep)
		}
	}
}

// runAsFar runs, but without the changes that can't be, as one ahead of them was refused.
func (l *life) runAsFar(list []act) {
	l.t.Helper()
	for _, a := range list {
		if a.kind == aChange {
			pages := l.now[len(l.now)-1].pages
			at := slices.Index(pagesOf(l.f), a.change.Page)
			if _, e := apply.Redo(a.change.Page, pages[at], api.Entry{Rec: a.change}); e != api.OK {
				continue
			}
		}
		l.run([]act{a})
	}
}

// randomRec is a change that the pages allow, if one is found quickly.
func randomRec(x *rand.Rand, f api.Config, pages []api.Payload) api.Rec {
	for range 9 {
		no := uint16(x.Intn(f.Undo))
		var r api.Rec
		switch x.Intn(6) {
		case 0, 1, 2:
			return setTo(uint16(x.Intn(f.Pages)), uint32(x.Intn(200)))
		case 3:
			r = add(no, uint8(x.Intn(4)), x.Intn(67))
		case 4:
			r = free(no, uint8(x.Intn(4)))
		case 5:
			r = cut(no, uint8(x.Intn(4)))
		}
		at := slices.Index(pagesOf(f), r.Page)
		if _, e := apply.Redo(r.Page, pages[at], api.Entry{Rec: r}); e == api.OK {
			return r
		}
	}
	return setTo(0, 1)
}

func TestPowerAnyRun(t *testing.T) { // P20.5
	for seed := range int64(1200) {
		x := rand.New(rand.NewSource(seed))
		f := api.Config{Pages: 1 + x.Intn(8), Undo: 1 + x.Intn(5), Log: 1 + x.Intn(60)}
		l := lifeOf(t, 4+x.Intn(4), f)
		var fails []int
		for range x.Intn(5) {
			fails = append(fails, 1+x.Intn(60))
		}
		l.d.Plan(fails, 1+x.Intn(120))
		ids := pagesOf(f)
		for range 80 {
			switch x.Intn(12) {
			case 0:
				l.b.Commit(x.Uint32())
			case 1:
				l.b.Cache().Write(ids[x.Intn(len(ids))])
			case 2:
				l.b.Learn()
			default:
				l.change(randomRec(x, f, l.now[len(l.now)-1].pages))
			}
		}
		keep := make([]bool, l.d.Pending())
		for i := range keep {
			keep[i] = x.Intn(4) != 1
		}
		l.wantMoment("any run", keep)
	}
}
