package cache

import (
	"math/rand"
	"slices"
	"strconv"
	"testing"

	"varve/api"
	"varve/log"
	"varve/page"
	"varve/ring"
	"varve/seal"
)

// life is a cache whose pages are put to with the LSNs of texts that tell so, over failures and crashes.
type life struct {
	*rig
	r      *rand.Rand
	frames int
	epoch  uint32
	lsn    uint64                     // from here on the log is needed
	last   map[api.PageID]api.Payload // what was put last
	held   []api.PageID
	marks  uint32
}

func lifeOf(t *testing.T, r *rand.Rand, frames, pages, undo int) *life {
	t.Helper()
	a := &life{rig: rigOf(t, frames, pages, undo), r: r, frames: frames, epoch: 1, lsn: 1, last: map[api.PageID]api.Payload{}}
	a.format()
	for _, id := range a.all() {
		a.last[id] = page.Blank(id)
	}
	return a
}

// textOf tells of a page that it was put to.
func textOf(id api.PageID, mark uint32) string {
	kind := "data "
	if id.Undo {
		kind = "undo "
	}
	return kind + strconv.Itoa(int(id.No)) + " " + strconv.Itoa(int(mark))
}

// fetch holds a page, if that can be, and holds it against what was put last.
func (a *life) fetch(id api.PageID) bool {
	a.t.Helper()
	p, e := a.c.Fetch(id)
	if e == api.ErrNoFrame && distinct(a.held) < a.frames {
		a.t.Fatalf("no frame, with %d pages held", distinct(a.held))
	}
	if e != api.OK {
		return false
	}
	if p != a.last[id] {
		a.t.Fatalf("%v isn't as it was put last", id)
	}
	a.held = append(a.held, id)
	return true
}

func distinct(list []api.PageID) int {
	set := map[api.PageID]bool{}
	for _, id := range list {
		set[id] = true
	}
	return len(set)
}

// put puts to a page that is held what a new text tells.
func (a *life) put(id api.PageID) {
	a.t.Helper()
	if a.l.Free() < 4 {
		a.spare()
	}
	a.marks++
	at, e := a.l.Append(textOf(id, a.marks))
	if e != api.OK {
		return
	}
	p := payloadOf(id, at, a.marks)
	a.wantErr("Put", a.c.Put(id, p), api.OK)
	a.last[id] = p
}

// spare writes all dirty pages back, and lets the log go that nothing needs any more.
func (a *life) spare() {
	a.t.Helper()
	for _, d := range a.c.Dirty() {
		if a.c.Write(d.Page) != api.OK {
			return
		}
	}
	if a.l.Flush() == api.OK {
		a.lsn = a.l.Durable()
		a.l.Trim(a.lsn)
	}
}

// crash turns the power off and on, and goes on with what is on the disk.
func (a *life) crash() {
	a.t.Helper()
	tail := a.l.Tail()
	keep := make([]bool, a.d.Pending())
	for i := range keep {
		keep[i] = a.r.Intn(3) > 0
	}
	a.d.Crash(keep)
	at := 2 + a.pages + a.undo
	chunks, e := log.Scan(a.d, at, logBlocks, tail)
	if e != api.OK {
		a.t.Fatalf("Scan: %d", e)
	}
	base, stream, starts, _ := ring.Join(tail, chunks)
	if len(starts) == 0 {
		base = a.lsn
	}
	items, end := ring.Items(base, stream, a.lsn)
	kept, number := ring.Keep(tail, starts, end)
	a.epoch++
	a.l = log.New(a.d, at, logBlocks, a.epoch, kept, number, end)
	if a.l == nil {
		a.t.Fatal("there is no log")
	}
	a.c = New(a.d, a.l, a.frames, a.pages, a.undo)
	a.held = nil
	for _, id := range a.all() {
		a.last[id] = a.found(id, items)
	}
	a.d.Plan(nil, 0)
}

// found is a page as it is on the disk behind a crash: what the log, where it is needed, tells too.
func (a *life) found(id api.PageID, items []api.Item) api.Payload {
	a.t.Helper()
	_, p, ok := seal.Open(a.d.Sure(placeOf(a.rig, id)))
	if !ok || !page.Right(id, p) {
		return page.Blank(id)
	}
	at := page.LSN(p)
	if at < a.lsn {
		return p
	}
	k := slices.IndexFunc(items, func(i api.Item) bool { return i.LSN == at })
	if k < 0 || payloadOf(id, at, markOf(id, p)) != p || items[k].Bytes != textOf(id, markOf(id, p)) {
		a.t.Fatalf("%v is on the disk with the LSN %d, of which the log doesn't tell", id, at)
	}
	return p
}

// markOf is the number that tells a payload from others.
func markOf(id api.PageID, p api.Payload) uint32 {
	if !id.Undo {
		d, _ := page.GetData(id.No, p)
		return d.Ts
	}
	u, _ := page.GetUndo(id.No, p)
	if len(u.Olds) == 0 {
		return 0
	}
	return u.Olds[0].Ts
}

// check holds what follows from the chapter against what is.
func (a *life) check() {
	a.t.Helper()
	durable := a.l.Durable()
	for _, id := range a.all() {
		b := placeOf(a.rig, id)
		for _, x := range []api.Block{a.d.Seen(b), a.d.Sure(b)} {
			if stamp, p, ok := seal.Open(x); ok && page.Right(id, p) && (page.LSN(p) >= durable || stamp != page.LSN(p)) {
				a.t.Fatalf("%v is on the disk with the LSN %d, the log lasts up to %d", id, page.LSN(p), durable)
			}
		}
		n := 0
		for _, h := range a.held {
			if h == id {
				n++
			}
		}
		if a.c.Pins(id) != n || n > 0 && !a.c.Resident(id) {
			a.t.Fatalf("%v is held %d times, it says %d", id, n, a.c.Pins(id))
		}
		if _, p, ok := seal.Open(a.d.Sure(b)); a.c.Clean(id) && ok && page.Right(id, p) && p != a.last[id] {
			a.t.Fatalf("%v is clean, but the disk has another payload", id)
		}
	}
}

// giveBack gives one of the holds back.
func (a *life) giveBack() {
	a.t.Helper()
	if n := len(a.held); n > 0 {
		k := a.r.Intn(n)
		a.wantErr("Unpin", a.c.Unpin(a.held[k]), api.OK)
		a.held = slices.Delete(a.held, k, k+1)
	}
}

func (a *life) step(faults bool) {
	a.t.Helper()
	id := a.all()[a.r.Intn(a.pages+a.undo)]
	switch k := a.r.Intn(40); {
	case k < 14:
		if a.fetch(id) && a.r.Intn(2) == 0 {
			a.put(id)
		}
	case k < 28:
		a.giveBack()
	case k < 34:
		if len(a.held) > 0 {
			a.put(a.held[a.r.Intn(len(a.held))])
		}
	case k < 36:
		a.c.Write(id)
	case k < 38:
		a.c.Cold(id, a.r.Intn(2) == 0)
	case faults && k < 39:
		a.d.Plan([]int{1 + a.r.Intn(9), 1 + a.r.Intn(9)}, 0)
	case faults:
		a.d.Plan(nil, 1+a.r.Intn(9))
	}
	if a.d.Down() {
		a.crash()
	}
	a.check()
}

func TestWhatFollows(t *testing.T) { // P13.7
	r := rand.New(rand.NewSource(137))
	for n := range 36 {
		a := lifeOf(t, r, []int{4, 4, 5, 32}[r.Intn(4)], 1+r.Intn(16), 1+r.Intn(32))
		for range 250 {
			a.step(n%3 > 0)
		}
	}
}

func TestManyPagesFewFrames(t *testing.T) { // P13.7
	a := lifeOf(t, rand.New(rand.NewSource(4)), 4, 16, 32)
	for range 5 {
		for _, k := range a.r.Perm(48) {
			id := a.all()[k]
			if !a.fetch(id) {
				t.Fatalf("Fetch(%v) is refused", id)
			}
			a.put(id)
			a.giveBack()
			a.check()
		}
	}
	for _, id := range a.all() {
		a.fetch(id)
		a.giveBack()
	}
}
