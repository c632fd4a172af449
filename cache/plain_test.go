package cache

import (
	"math/rand"
	"slices"
	"strconv"
	"testing"

	"varve/api"
	"varve/disk"
	"varve/log"
	"varve/page"
	"varve/seal"
)

// cell is a frame of a plain cache, with what its clock says of it.
type cell struct {
	had        bool
	id         api.PageID
	payload    api.Payload
	dirty      bool
	first      uint64
	torn       bool
	seen, cold bool
	pins       int
}

// plain is a cache told anew: frames that are searched one by one, and a clock within.
type plain struct {
	d           *disk.Disk
	l           *log.Log
	pages, undo int
	cells       []cell
	hand        int
}

func (p *plain) cell(id api.PageID) *cell {
	for i := range p.cells {
		if p.cells[i].had && p.cells[i].id == id {
			return &p.cells[i]
		}
	}
	return nil
}

func (p *plain) block(id api.PageID) int {
	if id.Undo {
		return 2 + p.pages + int(id.No)
	}
	return 2 + int(id.No)
}

// round is the frames' numbers from the hand on.
func (p *plain) round() []int {
	var list []int
	for i := range p.cells {
		list = append(list, (p.hand+i)%len(p.cells))
	}
	return list
}

// give is the frame that is given up; -1: all are held.
func (p *plain) give() int {
	for _, i := range p.round() {
		if p.cells[i].cold && p.cells[i].pins == 0 {
			p.hand = (i + 1) % len(p.cells)
			return i
		}
	}
	for range 2 { // in the second round none is seen any more
		for _, i := range p.round() {
			if p.cells[i].pins > 0 {
				continue
			}
			if !p.cells[i].seen {
				p.hand = (i + 1) % len(p.cells)
				return i
			}
			p.cells[i].seen = false
		}
	}
	return -1
}

func (p *plain) back(c *cell) api.Errno {
	if !c.dirty {
		return api.OK
	}
	var todo []func() api.Errno
	if !(p.l.Durable() > page.LSN(c.payload)) {
		todo = append(todo, p.l.Flush)
	}
	todo = append(todo, func() api.Errno {
		return p.d.Write(p.block(c.id), seal.Seal(page.LSN(c.payload), c.payload))
	}, p.d.Sync)
	for _, do := range todo {
		if e := do(); e != api.OK {
			return e
		}
	}
	c.dirty, c.first = false, 0
	return api.OK
}

func (p *plain) fetch(id api.PageID) (api.Payload, api.Errno) {
	if !id.Undo && int(id.No) >= p.pages || id.Undo && int(id.No) >= p.undo {
		return api.Payload{}, api.ErrArg
	}
	if c := p.cell(id); c != nil {
		c.seen = true
		c.pins++
		return c.payload, api.OK
	}
	i := slices.IndexFunc(p.cells, func(c cell) bool { return !c.had })
	if i < 0 {
		i = p.give()
	}
	if i < 0 {
		return api.Payload{}, api.ErrNoFrame
	}
	if e := p.back(&p.cells[i]); e != api.OK {
		return api.Payload{}, e
	}
	b, e := p.d.Read(p.block(id))
	if e != api.OK {
		return api.Payload{}, e
	}
	c := cell{had: true, id: id, payload: page.Blank(id), torn: true, seen: true, pins: 1}
	if _, x, ok := seal.Open(b); ok && page.Right(id, x) {
		c.payload, c.torn = x, false
	}
	p.cells[i] = c
	return c.payload, api.OK
}

func (p *plain) unpin(id api.PageID) api.Errno {
	c := p.cell(id)
	if c == nil || c.pins == 0 {
		return api.ErrArg
	}
	c.pins--
	return api.OK
}

func (p *plain) put(id api.PageID, x api.Payload) api.Errno {
	c := p.cell(id)
	if c == nil || c.pins == 0 || !page.Right(id, x) {
		return api.ErrArg
	}
	if !c.dirty {
		c.first = page.LSN(x)
	}
	c.payload, c.dirty, c.torn = x, true, false
	return api.OK
}

func (p *plain) write(id api.PageID) api.Errno {
	c := p.cell(id)
	if c == nil {
		return api.ErrArg
	}
	return p.back(c)
}

func (p *plain) dirty() []api.Dirt {
	var list []api.Dirt
	for b := range p.d.Size() {
		for _, c := range p.cells {
			if c.dirty && p.block(c.id) == b {
				list = append(list, api.Dirt{Page: c.id, LSN: c.first})
			}
		}
	}
	return list
}

// pair is a cache and a plain one, each over a disk and a log of its own.
type pair struct {
	t   *testing.T
	r   *rand.Rand
	rig *rig
	p   *plain
	log []string // what was done, for a fault's telling
}

func pairOf(t *testing.T, r *rand.Rand, frames, pages, undo int) *pair {
	t.Helper()
	a, b := rigOf(t, frames, pages, undo), rigOf(t, frames, pages, undo)
	if r.Intn(2) == 0 {
		a.format()
		b.format()
	}
	return &pair{t: t, r: r, rig: a, p: &plain{d: b.d, l: b.l, pages: pages, undo: undo, cells: make([]cell, frames)}}
}

func (q *pair) said(what string, id api.PageID) {
	kind := " data "
	if id.Undo {
		kind = " undo "
	}
	q.log = append(q.log, what+kind+strconv.Itoa(int(id.No)))
}

func (q *pair) fail(what string) {
	q.t.Helper()
	if n := len(q.log); n > 60 {
		q.log = q.log[n-60:]
	}
	q.t.Fatalf("%s, behind %q", what, q.log)
}

func (q *pair) same(what string, got, want api.Errno) {
	q.t.Helper()
	if got != want {
		q.fail(what + " = " + strconv.Itoa(int(got)) + ", want " + strconv.Itoa(int(want)))
	}
}

// any is a page, now and then one that there isn't.
func (q *pair) any() api.PageID {
	id := api.PageID{Undo: q.r.Intn(2) == 0}
	n := q.p.pages
	if id.Undo {
		n = q.p.undo
	}
	id.No = uint16(q.r.Intn(n))
	if q.r.Intn(30) == 0 {
		id.No = []uint16{uint16(n), uint16(n + 1), uint16(q.p.pages), uint16(q.p.undo), 65535}[q.r.Intn(5)]
	}
	return id
}

func (q *pair) fetch(id api.PageID) {
	q.t.Helper()
	q.said("fetch", id)
	x, e := q.rig.c.Fetch(id)
	y, f := q.p.fetch(id)
	q.same("Fetch", e, f)
	if x != y {
		q.fail("Fetch: another payload")
	}
}

// put lays a text in both logs, and puts a payload with the LSN of that, or now and then with another one.
func (q *pair) put(id api.PageID) {
	q.t.Helper()
	q.said("put", id)
	at, e := q.rig.l.Append("a change")
	lsn, f := q.p.l.Append("a change")
	q.same("Append", e, f)
	if q.r.Intn(20) == 0 {
		lsn += uint64(q.r.Intn(50)) - uint64(q.r.Intn(int(lsn)+1))
		at = lsn
	}
	x := payloadOf(id, at, q.r.Uint32())
	if at != lsn {
		q.fail("Append: another place")
	}
	if q.r.Intn(20) == 0 {
		x[q.r.Intn(len(x))] ^= 1 << q.r.Intn(8)
	}
	q.same("Put", q.rig.c.Put(id, x), q.p.put(id, x))
}

func (q *pair) plan() {
	var fails []int
	for range q.r.Intn(4) {
		fails = append(fails, 1+q.r.Intn(12))
	}
	fuse := q.r.Intn(30)
	q.said("plan", api.PageID{No: uint16(fuse)})
	q.rig.d.Plan(fails, fuse)
	q.p.d.Plan(fails, fuse)
}

func (q *pair) crash() {
	keep := make([]bool, q.rig.d.Pending())
	for i := range keep {
		keep[i] = q.r.Intn(2) == 0
	}
	q.said("crash", api.PageID{})
	q.rig.d.Crash(keep)
	q.p.d.Crash(keep)
}

// step does one thing with both.
func (q *pair) step() {
	q.t.Helper()
	id := q.any()
	switch k := q.r.Intn(40); {
	case k < 14:
		q.fetch(id)
	case k < 25:
		q.said("unpin", id)
		q.same("Unpin", q.rig.c.Unpin(id), q.p.unpin(id))
	case k < 32:
		q.put(id)
	case k < 34:
		q.said("write", id)
		q.same("Write", q.rig.c.Write(id), q.p.write(id))
	case k < 37:
		is := q.r.Intn(2) == 0
		q.said("cold "+strconv.FormatBool(is), id)
		q.rig.c.Cold(id, is)
		if c := q.p.cell(id); c != nil {
			c.cold = is
		}
	case k < 38:
		q.plan()
	case k < 39 || q.rig.d.Down():
		q.crash()
	default:
		q.said("flush", api.PageID{})
		q.same("Flush", q.rig.l.Flush(), q.p.l.Flush())
		q.rig.l.Trim(q.rig.l.Durable())
		q.p.l.Trim(q.p.l.Durable())
	}
	q.compare()
}

// compare holds all that can be told of the one against the other.
func (q *pair) compare() {
	q.t.Helper()
	for _, id := range q.rig.ids() {
		want := status{clean: true}
		if c := q.p.cell(id); c != nil {
			want = status{resident: true, clean: !c.dirty, torn: c.torn, pins: c.pins}
		}
		if got := statusOf(q.rig.c, id); got != want {
			q.said("", id)
			q.fail("the page is otherwise")
		}
	}
	if got, want := q.rig.c.Dirty(), q.p.dirty(); !slices.Equal(got, want) {
		q.fail("Dirty")
	}
	a, b := q.rig.d, q.p.d
	if a.Ops() != b.Ops() || a.Down() != b.Down() || a.Pending() != b.Pending() || q.rig.l.Durable() != q.p.l.Durable() {
		q.fail("the disk or the log was asked otherwise")
	}
	for i := range a.Size() {
		if a.Seen(i) != b.Seen(i) || a.Sure(i) != b.Sure(i) {
			q.fail("the block " + strconv.Itoa(i) + " is otherwise")
		}
	}
}

func TestScripts(t *testing.T) { // P13.1 to P13.6
	r := rand.New(rand.NewSource(13))
	for range 150 {
		frames := []int{4, 4, 4, 5, 6, 8, 32}[r.Intn(7)]
		q := pairOf(t, r, frames, 1+r.Intn(16), 1+r.Intn(32))
		if r.Intn(3) > 0 { // few pages: what is asked for is mostly resident
			q = pairOf(t, r, frames, 1+r.Intn(5), 1+r.Intn(5))
		}
		for range 250 {
			q.step()
		}
	}
}
