package restart

import (
	"math/rand"
	"slices"
	"testing"

	"varve/api"
	"varve/apply"
	"varve/base"
	"varve/chain"
	"varve/commit"
	"varve/disk"
	"varve/log"
	"varve/master"
	"varve/page"
	"varve/rec"
	"varve/ring"
	"varve/vacuum"
)

// plain is the chapter told anew, over a disk of its own.
type plain struct {
	d    *disk.Disk
	b    *base.Base
	m    api.Master
	at   int // the block of that one
	most uint64
}

func plainOpen(d *disk.Disk, frames int) (*plain, api.Errno) {
	if frames < 4 || frames > 32 {
		return nil, api.ErrArg
	}
	p := &plain{d: d}
	var list []api.Item
	var last uint32
	for _, do := range []func() api.Errno{
		p.load,
		func() (e api.Errno) { list, e = p.scan(frames); return },
		func() (e api.Errno) { last, e = p.redo(list); return },
		func() api.Errno { return p.b.Learn() },
		func() api.Errno { return p.pop(last) },
		p.write,
		func() api.Errno { return p.mark(last) },
	} {
		if e := do(); e != api.OK {
			return nil, e
		}
	}
	return p, api.OK
}

func (p *plain) load() api.Errno {
	if e := p.d.Sync(); e != api.OK {
		return e
	}
	var found []api.Master
	for i := range 2 {
		b, e := p.d.Read(i)
		if e != api.OK {
			return e
		}
		if m, ok := master.Unpack(b); ok {
			found = append(found, m)
			if len(found) == 1 || m.Seq > found[0].Seq {
				p.m, p.at = m, i
			}
		}
	}
	c := p.m.Config
	if len(found) == 0 || p.d.Size() < 2+c.Pages+c.Undo+c.Log {
		return api.ErrForm
	}
	p.m.Seq++
	p.m.Epoch++
	p.most = p.m.Seq
	p.at = 1 - p.at
	return master.Store(p.d, p.at, p.m)
}

func (p *plain) scan(frames int) ([]api.Item, api.Errno) {
	c := p.m.Config
	chunks, e := log.Scan(p.d, 2+c.Pages+c.Undo, c.Log, p.m.Tail)
	if e != api.OK {
		return nil, e
	}
	var list []api.Item
	var starts []api.Start
	number, end := p.m.Tail, p.m.LSN
	if len(chunks) > 0 {
		from, stream, all, _ := ring.Join(p.m.Tail, chunks)
		list, end = ring.Items(from, stream, p.m.LSN)
		for _, s := range all {
			if s.Offset >= end {
				break
			}
			starts = append(starts, s)
			number++
		}
	}
	p.b = base.New(p.d, c, frames, p.m.Epoch, starts, number, end)
	if p.b == nil {
		return nil, api.ErrForm
	}
	return list, api.OK
}

func (p *plain) redo(list []api.Item) (uint32, api.Errno) {
	last := p.m.Last
	for _, x := range list {
		r, e := rec.Decode(x.Bytes)
		if e != api.OK {
			continue
		}
		if r.Kind == api.RCommit {
			if r.Ts > last {
				last = r.Ts
			}
			continue
		}
		cache := p.b.Cache()
		old, e := cache.Fetch(r.Page)
		if e != api.OK && e != api.ErrArg {
			return 0, e
		}
		if e == api.ErrArg {
			continue
		}
		torn := cache.Torn(r.Page)
		if torn && r.Kind == api.RImage || !torn && page.LSN(old) < x.LSN {
			if made, e := apply.Redo(r.Page, old, api.Entry{LSN: x.LSN, Rec: r}); e == api.OK {
				cache.Put(r.Page, made)
			}
		}
		cache.Unpin(r.Page)
	}
	return last, api.OK
}

func (p *plain) pop(last uint32) api.Errno {
	for no := uint16(0); int(no) < p.m.Config.Pages; {
		v, e := chain.Newest(p.b.Cache(), no)
		if e != api.OK {
			return e
		}
		if v.Ts <= last {
			no++
			continue
		}
		if e := commit.Pop(p.b, no); e != api.OK {
			return e
		}
	}
	return api.OK
}

func (p *plain) write() api.Errno {
	for _, x := range p.b.Cache().Dirty() {
		if e := p.b.Cache().Write(x.Page); e != api.OK {
			return e
		}
	}
	return api.OK
}

func (p *plain) mark(last uint32) api.Errno {
	l := p.b.Log()
	if e := l.Flush(); e != api.OK {
		return e
	}
	places := []uint64{l.End()}
	for _, x := range p.b.Cache().Dirty() {
		places = append(places, x.LSN)
	}
	lsn := slices.Min(places)
	p.most++
	m := api.Master{Seq: p.most, Epoch: p.m.Epoch, Tail: l.From(lsn), LSN: lsn, Last: last, Config: p.m.Config}
	if e := master.Store(p.d, 1-p.at, m); e != api.OK {
		return e
	}
	p.m, p.at = m, 1-p.at
	l.Trim(lsn)
	return api.OK
}

// pair is a store, and the same told anew; there is none of both while it isn't open.
type pair struct {
	t    *testing.T
	d    *disk.Disk
	s    *State
	x    *disk.Disk
	p    *plain
	c    api.Config
	last uint32 // a timestamp up to which versions were installed
	errs map[string]int
}

// both does something with both disks and, if it is open, the parts.
func (p *pair) both(do func(d *disk.Disk, b *base.Base) api.Errno) {
	p.t.Helper()
	var b *base.Base
	if p.s != nil {
		b = p.p.b
	}
	got, want := do(p.d, p.s.Base()), do(p.x, b)
	if got != want {
		p.t.Fatalf("something was answered with %d, want %d", got, want)
	}
}

func (p *pair) open(frames int) {
	p.t.Helper()
	s, got := Open(p.d, frames)
	x, want := plainOpen(p.x, frames)
	p.errs["Open "+string('0'+rune(got))]++
	if got != want || (s == nil) != (x == nil) {
		p.t.Fatalf("Open = %v, %d, want %d", s, got, want)
	}
	p.s, p.p = s, x
}

func (p *pair) mark(last uint32) {
	p.t.Helper()
	got, want := p.s.Mark(last), p.p.mark(last)
	p.errs["Mark "+string('0'+rune(got))]++
	if got != want {
		p.t.Fatalf("Mark = %d, want %d", got, want)
	}
}

// same holds all that can be told of both stores against each other.
func (p *pair) same() {
	p.t.Helper()
	if p.d.Ops() != p.x.Ops() || p.d.Down() != p.x.Down() || p.d.Pending() != p.x.Pending() {
		p.t.Fatalf("%d operations, want %d", p.d.Ops(), p.x.Ops())
	}
	for i := range p.d.Size() {
		if p.d.Seen(i) != p.x.Seen(i) || p.d.Sure(i) != p.x.Sure(i) {
			p.t.Fatalf("the block %d isn't as it should be", i)
		}
	}
	if p.s == nil {
		return
	}
	if p.s.Master() != p.p.m {
		p.t.Fatalf("the master is %+v, want %+v", p.s.Master(), p.p.m)
	}
	a, b := p.s.Base(), p.p.b
	x, y := a.Log(), b.Log()
	if x.End() != y.End() || x.Durable() != y.Durable() || x.Free() != y.Free() || x.Tail() != y.Tail() {
		p.t.Fatalf("the log ends at %d, want %d, or has other blocks", x.End(), y.End())
	}
	if !slices.Equal(a.Cache().Dirty(), b.Cache().Dirty()) || !slices.Equal(a.Room().Refs(), b.Room().Refs()) {
		p.t.Fatal("other pages are dirty, or the room knows other records")
	}
	for _, id := range pagesOf(p.c) {
		if a.Cache().Resident(id) != b.Cache().Resident(id) || a.Cache().Pins(id) != b.Cache().Pins(id) || a.Cache().Torn(id) != b.Cache().Torn(id) {
			p.t.Fatalf("%v isn't as it should be", id)
		}
	}
}

// use does something with a store that is open.
func (p *pair) use(x *rand.Rand) {
	p.t.Helper()
	no, ts, body := uint16(x.Intn(p.c.Pages)), p.last+uint32(x.Intn(3)), bodyOf(x.Intn(256))
	if x.Intn(3) == 0 {
		body = wholeOf(x.Intn(256))
	}
	ids := pagesOf(p.c)
	id := ids[x.Intn(len(ids))]
	kind := x.Intn(20)
	text := []string{"x", "\x06\x03", "\x04\x77\x00\x00", "\x04\x00\x00\x09"}[x.Intn(4)] // no records, and stray ones
	p.both(func(d *disk.Disk, b *base.Base) api.Errno {
		switch {
		case kind < 9:
			return commit.Install(b, no, ts, body)
		case kind < 12:
			return b.Commit(ts)
		case kind < 13:
			return commit.Pop(b, no)
		case kind < 15:
			return b.Cache().Write(id)
		case kind < 16:
			return vacuum.Pass(b, p.last)
		case kind < 17:
			_, e := b.Log().Append(text)
			return e
		}
		return b.Log().Flush()
	})
	if kind >= 9 && kind < 12 {
		p.last = ts
	}
	if x.Intn(15) == 0 {
		plan := []int{1 + x.Intn(4), 5 + x.Intn(9)}
		p.both(func(d *disk.Disk, b *base.Base) api.Errno { d.Plan(plan, 0); return api.OK })
	}
	if x.Intn(9) == 0 {
		p.mark(p.last)
	}
	if x.Intn(60) == 0 {
		p.mark(100)
	}
}

// stir does what may happen to a disk.
func (p *pair) stir(x *rand.Rand) {
	p.t.Helper()
	keep := make([]bool, p.d.Pending())
	for i := range keep {
		keep[i] = x.Intn(3) > 0
	}
	plan, fuse := []int{1 + x.Intn(30), 1 + x.Intn(30)}, x.Intn(3)*x.Intn(40)
	if x.Intn(2) == 0 {
		plan, fuse = nil, 0
	}
	block := 2 + x.Intn(p.c.Pages+p.c.Undo)
	spoil := x.Intn(40) == 0
	p.s, p.p = nil, nil
	crash := p.d.Down() || x.Intn(3) > 0
	p.both(func(d *disk.Disk, b *base.Base) api.Errno {
		if crash {
			d.Crash(keep)
		}
		if spoil {
			d.Write(block, blockOf(block))
		}
		d.Plan(plan, fuse)
		return api.OK
	})
}

func TestToldAnew(t *testing.T) { // P23.2, P23.3, P23.4
	errs := make(map[string]int)
	for seed := range int64(90) {
		x := rand.New(rand.NewSource(seed))
		c := api.Config{Pages: 1 + x.Intn(6), Undo: 1 + x.Intn(5), Log: 64 + x.Intn(3), MaxTs: 99}
		p := &pair{t: t, d: formatted(t, c), x: formatted(t, c), c: c, errs: errs}
		for range 150 {
			switch {
			case p.s == nil && p.d.Down() || x.Intn(25) == 0:
				p.stir(x)
			case p.s == nil:
				p.open(4 + x.Intn(3)*x.Intn(5))
			default:
				p.use(x)
			}
			p.same()
		}
	}
	for _, name := range []string{"Open 0", "Open 3", "Open 4", "Mark 0", "Mark 1", "Mark 3", "Mark 4"} {
		if errs[name] < 15 {
			t.Errorf("%s was answered only %d times", name, errs[name])
		}
	}
}

// The store that was well used, with few frames, at each operation that fails: some that free a record may fail, and it is opened all the same.
func TestFailsToldAnew(t *testing.T) { // P23.2
	d := wellUsed(t)
	for _, frames := range []int{4, 5, 6} {
		x := copyOf(d)
		Open(x, frames)
		n := x.Ops()
		for k := 1; k <= n+1; k++ {
			for _, f := range append(failures(k), failure{fails: []int{k, k + 1, k + 3}}) {
				p := &pair{t: t, d: copyOf(d), x: copyOf(d), c: api.Config{Pages: 5, Undo: 6, Log: 64, MaxTs: 99}, errs: make(map[string]int)}
				p.d.Plan(f.fails, f.fuse)
				p.x.Plan(f.fails, f.fuse)
				p.open(frames)
				p.same()
				p.s, p.p = nil, nil
				p.d.Crash([]bool{true, false, true})
				p.x.Crash([]bool{true, false, true})
				p.open(4)
				p.same()
			}
		}
	}
}
