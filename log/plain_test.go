package log

import (
	"math"
	"slices"
	"strings"
	"testing"

	"varve/api"
	"varve/disk"
	"varve/ring"
)

// plain is a log told anew: all blocks in one list, each operation of the disk one by one.
type plain struct {
	d            *disk.Disk
	at, size     int
	epoch        uint32
	blocks       []api.Chunk // the log's, those that last first
	last         int         // how many of them last
	open         string
	number       uint32
	synced       bool // fresh no more
	end, durable uint64
}

func (p *plain) cut(n int) {
	at := p.end - uint64(len(p.open))
	p.blocks = append(p.blocks, api.Chunk{Epoch: p.epoch, Number: p.number, Offset: at, Bytes: p.open[:n]})
	p.open = p.open[n:]
	p.number++
}

func (p *plain) append(s string) (uint64, api.Errno) {
	if len(s) < 1 || len(s) > 400 {
		return 0, api.ErrArg
	}
	more := len(p.blocks)
	for left := len(p.open) + 6 + len(s); left > 0; left -= 214 {
		more++
	}
	if more > p.size {
		return 0, api.ErrFull
	}
	at := p.end
	p.open += ring.Frame(s)
	p.end += uint64(6 + len(s))
	for len(p.open) >= 214 {
		p.cut(214)
	}
	return at, api.OK
}

// flush does what a Flush has to do with the disk, operation by operation.
func (p *plain) flush() api.Errno {
	if len(p.open) > 0 {
		p.cut(len(p.open))
	}
	var todo []func() api.Errno
	sync := func() api.Errno {
		e := p.d.Sync()
		p.synced = p.synced || e == api.OK
		return e
	}
	sealed := p.blocks[p.last:]
	for i, c := range sealed {
		todo = append(todo, func() api.Errno { return p.d.Write(p.at+int(c.Number)%p.size, packed(c)) })
		if i == 0 && !p.synced || i == len(sealed)-1 {
			todo = append(todo, sync)
		}
	}
	for _, do := range todo {
		if e := do(); e != api.OK {
			return e
		}
	}
	p.last, p.durable = len(p.blocks), p.end
	return api.OK
}

func (p *plain) passed(lsn uint64) int {
	ends := []uint64{}
	for i := 1; i < p.last; i++ {
		ends = append(ends, p.blocks[i].Offset)
	}
	if p.last > 0 {
		ends = append(ends, p.durable)
	}
	n := slices.IndexFunc(ends, func(end uint64) bool { return end > lsn })
	if n < 0 {
		return len(ends)
	}
	return n
}

func (p *plain) trim(lsn uint64) {
	n := p.passed(lsn)
	p.blocks = p.blocks[n:]
	p.last -= n
}

func (p *plain) numbers() numbers {
	n := numbers{end: p.end, durable: p.durable, free: p.size - len(p.blocks), tail: p.number}
	if len(p.open) > 0 {
		n.free--
	}
	if len(p.blocks) > 0 {
		n.tail = p.blocks[0].Number
	}
	return n
}

// packed is the block of a chunk that may have one.
func packed(c api.Chunk) api.Block {
	b, e := ring.Pack(c)
	if e != api.OK {
		panic("no block")
	}
	return b
}

// numbers are what a log tells of itself.
type numbers struct {
	end, durable uint64
	free         int
	tail         uint32
}

func numbersOf(l *Log) numbers {
	return numbers{end: l.End(), durable: l.Durable(), free: l.Free(), tail: l.Tail()}
}

func wantNumbers(t *testing.T, what string, l *Log, want numbers) {
	t.Helper()
	if got := numbersOf(l); got != want {
		t.Errorf("%s: end, durable, free, tail are %v, wanted %v", what, got, want)
	}
}

func wantAppend(t *testing.T, l *Log, s string, want uint64, err api.Errno) {
	t.Helper()
	if at, e := l.Append(s); at != want || e != err {
		t.Errorf("Append of %d bytes: %d, %d, wanted %d, %d", len(s), at, e, want, err)
	}
}

func wantFlush(t *testing.T, l *Log, want api.Errno) {
	t.Helper()
	if e := l.Flush(); e != want {
		t.Errorf("Flush: %d, wanted %d", e, want)
	}
}

func wantFrom(t *testing.T, l *Log, lsn uint64, want uint32) {
	t.Helper()
	if n := l.From(lsn); n != want {
		t.Errorf("From(%d): %d, wanted %d", lsn, n, want)
	}
}

// wantScan fails a test in which a scan tells something else.
func wantScan(t *testing.T, d *disk.Disk, at, size int, first uint32, want []api.Chunk, err api.Errno) {
	t.Helper()
	if got, e := Scan(d, at, size, first); e != err || !slices.Equal(got, want) {
		t.Errorf("Scan(%d, %d, %d): %d chunks, %d, wanted %d, %d", at, size, first, len(got), e, len(want), err)
	}
}

// sameDisk fails a test in which two disks tell different things.
func sameDisk(t *testing.T, what string, d, want *disk.Disk) {
	t.Helper()
	if d.Ops() != want.Ops() || d.Down() != want.Down() {
		t.Errorf("%s: ops %d, down %v, wanted %d, %v", what, d.Ops(), d.Down(), want.Ops(), want.Down())
	}
	sameBlocks(t, what, d, want)
}

// sameBlocks fails a test in which two disks hold different things.
func sameBlocks(t *testing.T, what string, d, want *disk.Disk) {
	t.Helper()
	if d.Pending() != want.Pending() {
		t.Errorf("%s: pending %d, wanted %d", what, d.Pending(), want.Pending())
	}
	for b := range want.Size() {
		if d.Seen(b) != want.Seen(b) || d.Sure(b) != want.Sure(b) {
			t.Errorf("%s: the block %d differs: seen %v, sure %v", what, b, d.Seen(b) != want.Seen(b), d.Sure(b) != want.Sure(b))
		}
	}
}

// pair is a log, and the same told anew: whatever is done with one is done with both, and held against each other.
type pair struct {
	t *testing.T
	d *disk.Disk
	l *Log
	p *plain
}

func pairOf(t *testing.T, blocks, at, size int, epoch uint32, starts []api.Start, number uint32, end uint64) *pair {
	t.Helper()
	d := disk.New(blocks)
	x := &pair{t: t, d: d, l: New(d, at, size, epoch, starts, number, end)}
	if x.l == nil {
		t.Fatalf("New(.., %d, %d, %d, %v, %d, %d) is nil", at, size, epoch, starts, number, end)
	}
	x.p = &plain{d: disk.New(blocks), at: at, size: size, epoch: epoch, last: len(starts), number: number, end: end, durable: end}
	for _, s := range starts {
		x.p.blocks = append(x.p.blocks, api.Chunk{Number: s.Number, Offset: s.Offset})
	}
	x.same("New")
	return x
}

// same holds the two against each other: numbers, the disk, and From at all places that could differ.
func (x *pair) same(what string) {
	x.t.Helper()
	wantNumbers(x.t, what, x.l, x.p.numbers())
	sameDisk(x.t, what, x.d, x.p.d)
	places := []uint64{0, 1, x.p.end, x.p.durable, x.p.durable - 1, x.p.durable + 1, math.MaxUint64 - 1, math.MaxUint64}
	for _, c := range x.p.blocks {
		places = append(places, c.Offset-1, c.Offset, c.Offset+1)
	}
	for _, lsn := range places {
		wantFrom(x.t, x.l, lsn, x.p.numbers().tail+uint32(x.p.passed(lsn)))
	}
	if x.t.Failed() {
		x.t.FailNow()
	}
}

func (x *pair) append(s string) api.Errno {
	x.t.Helper()
	at, e := x.p.append(s)
	wantAppend(x.t, x.l, s, at, e)
	x.same("Append")
	return e
}

func (x *pair) flush() api.Errno {
	x.t.Helper()
	e := x.p.flush()
	wantFlush(x.t, x.l, e)
	x.same("Flush")
	return e
}

func (x *pair) trim(lsn uint64) {
	x.t.Helper()
	x.p.trim(lsn)
	x.l.Trim(lsn)
	x.same("Trim")
}

// scan is what both disks hold of the log from a number on.
func (x *pair) scan(first uint32) []api.Chunk {
	x.t.Helper()
	list, e := Scan(x.d, x.p.at, x.p.size, first)
	wantScan(x.t, x.p.d, x.p.at, x.p.size, first, list, e)
	x.same("Scan")
	return list
}

func (x *pair) plan(fails []int, fuse int) {
	x.d.Plan(fails, fuse)
	x.p.d.Plan(fails, fuse)
}

func (x *pair) crash(keep []bool) {
	x.t.Helper()
	x.d.Crash(keep)
	x.p.d.Crash(keep)
	x.same("Crash")
}

// fill lays a text whose frame has n bytes.
func (x *pair) fill(n int) {
	x.t.Helper()
	if e := x.append(strings.Repeat("f", n-6)); e != api.OK {
		x.t.Fatalf("a frame of %d bytes: %d", n, e)
	}
}
