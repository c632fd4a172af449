package base

import (
	"math"
	"slices"
	"strings"
	"testing"

	"varve/api"
	"varve/apply"
	"varve/cache"
	"varve/disk"
	"varve/log"
	"varve/page"
	"varve/rec"
	"varve/ring"
	"varve/seal"
)

func data(no uint16) api.PageID { return api.PageID{No: no} }
func undo(no uint16) api.PageID { return api.PageID{Undo: true, No: no} }

// The records that changes are made of here.

func setTo(no uint16, ts uint32) api.Rec {
	return api.Rec{Kind: api.RData, Page: data(no), Ts: ts, Prev: api.Ref{Page: no + 1, Slot: 3}, Delta: "\x05\x02" + string([]byte{byte(ts), byte(no)})}
}

func add(no uint16, at uint8, n int) api.Rec {
	o := api.Old{Live: true, Page: no, Ts: uint32(at) + 7, Next: api.Ref{Page: 9, Slot: 8}, Delta: strings.Repeat("d", n)}
	return api.Rec{Kind: api.RAdd, Page: undo(no), Slot: at, Old: o}
}

func free(no uint16, at uint8) api.Rec {
	return api.Rec{Kind: api.RFree, Page: undo(no), Slot: at}
}

func cut(no uint16, at uint8) api.Rec {
	return api.Rec{Kind: api.RCut, Page: undo(no), Slot: at}
}

// pagesOf are all pages of a store, in the order of their blocks.
func pagesOf(f api.Config) []api.PageID {
	var list []api.PageID
	for i := range f.Pages {
		list = append(list, data(uint16(i)))
	}
	for i := range f.Undo {
		list = append(list, undo(uint16(i)))
	}
	return list
}

// blankDisk is a disk of just as many blocks as a store has, whose pages are blank.
func blankDisk(f api.Config) *disk.Disk {
	d := disk.New(2 + f.Pages + f.Undo + f.Log)
	for i, id := range pagesOf(f) {
		d.Write(2+i, seal.Seal(0, page.Blank(id)))
	}
	d.Sync()
	d.Plan(nil, 0)
	return d
}

// rig is a blank store's parts.
type rig struct {
	t *testing.T
	d *disk.Disk
	b *Base
	f api.Config
}

func rigOf(t *testing.T, frames, pages, undo, blocks int) *rig {
	t.Helper()
	f := api.Config{Pages: pages, Undo: undo, Log: blocks, MaxTs: 99}
	d := blankDisk(f)
	b := New(d, f, frames, 1, nil, 0, 1)
	if b == nil {
		t.Fatalf("there are no parts of %v with %d frames", f, frames)
	}
	return &rig{t: t, d: d, b: b, f: f}
}

func (r *rig) want(name string, got, want api.Errno) {
	r.t.Helper()
	if got != want {
		r.t.Errorf("%s = %d, want %d", name, got, want)
	}
}

// do makes changes, none of which is refused.
func (r *rig) do(list ...api.Rec) {
	r.t.Helper()
	for _, x := range list {
		if e := r.b.Change(x); e != api.OK {
			r.t.Fatalf("Change(%+v) = %d", x, e)
		}
	}
}

// see is a page's payload; the page is given back.
func (r *rig) see(id api.PageID) api.Payload {
	r.t.Helper()
	p, e := r.b.Cache().Fetch(id)
	if e != api.OK || r.b.Cache().Unpin(id) != api.OK {
		r.t.Fatalf("%v can't be seen: %d", id, e)
	}
	return p
}

// visit has pages looked at, so that they are resident.
func (r *rig) visit(list ...api.PageID) {
	r.t.Helper()
	for _, id := range list {
		r.see(id)
	}
}

// hold holds pages.
func (r *rig) hold(list ...api.PageID) {
	r.t.Helper()
	for _, id := range list {
		if _, e := r.b.Cache().Fetch(id); e != api.OK {
			r.t.Fatalf("%v can't be held: %d", id, e)
		}
	}
}

func (r *rig) write(list ...api.PageID) {
	r.t.Helper()
	for _, id := range list {
		r.want("Write", r.b.Cache().Write(id), api.OK)
	}
}

// undoPage is what an undo page holds.
func (r *rig) undoPage(no uint16) api.Undo {
	r.t.Helper()
	u, e := page.GetUndo(no, r.see(undo(no)))
	r.want("GetUndo", e, api.OK)
	return u
}

// wantHeld holds how often pages are held against these, once each.
func (r *rig) wantHeld(name string, want ...api.PageID) {
	r.t.Helper()
	for _, id := range pagesOf(r.f) {
		n := 0
		if slices.Contains(want, id) {
			n = 1
		}
		if got := r.b.Cache().Pins(id); got != n {
			r.t.Errorf("%s: %v is held %d times, want %d", name, id, got, n)
		}
	}
}

func (r *rig) wantResident(name string, want ...api.PageID) {
	r.t.Helper()
	for _, id := range pagesOf(r.f) {
		if got := r.b.Cache().Resident(id); got != slices.Contains(want, id) {
			r.t.Errorf("%s: %v is resident: %v", name, id, got)
		}
	}
}

func (r *rig) wantOps(name string, want int) {
	r.t.Helper()
	if got := r.d.Ops(); got != want {
		r.t.Errorf("%s: %d operations, want %d", name, got, want)
	}
}

func sameUndo(a, b api.Undo) bool {
	return a.LSN == b.LSN && slices.Equal(a.Olds, b.Olds)
}

func (r *rig) wantNoted(name string, no int, want api.Undo) {
	r.t.Helper()
	if got := r.b.Room().Page(no); !sameUndo(got, want) {
		r.t.Errorf("%s: of the undo page %d it was noted %v, want %v", name, no, got, want)
	}
}

// numbers are what a log says of itself.
type numbers struct {
	end, durable uint64
	free         int
	tail         uint32
}

func numbersOf(l *log.Log) numbers {
	return numbers{end: l.End(), durable: l.Durable(), free: l.Free(), tail: l.Tail()}
}

// entriesOn are the records that a log's region of a disk holds.
func entriesOn(t *testing.T, d *disk.Disk, f api.Config) []api.Entry {
	t.Helper()
	chunks, e := log.Scan(d, 2+f.Pages+f.Undo, f.Log, 0)
	if e != api.OK {
		t.Fatalf("Scan = %d", e)
	}
	at, stream, _, _ := ring.Join(0, chunks)
	items, _ := ring.Items(at, stream, 1)
	var list []api.Entry
	for _, x := range items {
		r, e := rec.Decode(x.Bytes)
		if e != api.OK {
			t.Fatalf("the text at %d is no record", x.LSN)
		}
		list = append(list, api.Entry{LSN: x.LSN, Rec: r})
	}
	return list
}

// told are the records that were laid.
func (r *rig) told() []api.Rec {
	r.t.Helper()
	r.want("Flush", r.b.Log().Flush(), api.OK)
	var list []api.Rec
	for _, x := range entriesOn(r.t, r.d, r.f) {
		list = append(list, x.Rec)
	}
	return list
}

// image is the record of all of a page, as it is.
func (r *rig) image(id api.PageID) api.Rec {
	r.t.Helper()
	return api.Rec{Kind: api.RImage, Page: id, Image: r.see(id)}
}

func (r *rig) wantTold(name string, want ...api.Rec) {
	r.t.Helper()
	got := r.told()
	if slices.Equal(got, want) {
		return
	}
	var kinds []uint8
	for _, x := range got {
		kinds = append(kinds, x.Kind)
	}
	r.t.Errorf("%s: the log tells %d records, of the kinds %v, want %d others", name, len(got), kinds, len(want))
}

// failure is a plan of a disk by which one of its operations fails.
type failure struct {
	fails []int
	fuse  int
	want  api.Errno
}

func failures(k int) []failure {
	return []failure{{[]int{k}, 0, api.ErrIO}, {nil, k, api.ErrDown}}
}

func TestExample(t *testing.T) { // P20.3
	r := rigOf(t, 4, 3, 3, 70)
	change := func(ts uint32) api.Rec { return api.Rec{Kind: api.RData, Page: data(1), Ts: ts} }
	r.do(change(4))
	first := api.Rec{Kind: api.RImage, Page: data(1), Image: page.PutData(1, api.Data{LSN: 1, Ts: 4})}
	r.wantTold("one change", first)
	r.do(change(5))
	r.wantTold("two", first, change(5))
	r.write(data(1))
	r.do(change(6))
	r.wantTold("written back, and changed", first, change(5), r.image(data(1)))
}

func TestNew(t *testing.T) { // P20.1
	good := api.Config{Pages: 3, Undo: 4, Log: 64, MaxTs: 9}
	with := func(pages, undo, blocks int) api.Config {
		return api.Config{Pages: pages, Undo: undo, Log: blocks, MaxTs: 9}
	}
	for _, c := range []struct {
		name   string
		blocks int
		f      api.Config
		frames int
		is     bool
	}{
		{"a store", 73, good, 4, true},
		{"a greater disk", 2048, good, 4, true},
		{"all frames", 73, good, 32, true},
		{"a disk that is too small for the region", 72, good, 4, false},
		{"a disk of no more than the pages", 9, good, 4, false},
		{"a disk of one block", 1, good, 4, false},
		{"no disk", 0, good, 4, false},
		{"no config", 73, api.Config{}, 4, false},
		{"no pages", 73, with(0, 4, 64), 4, false},
		{"pages below none", 73, with(-1, 4, 64), 4, false},
		{"the least", 68, with(1, 1, 64), 4, true},
		{"the most", 562, with(16, 32, 512), 32, true},
		{"too many pages", 2048, with(17, 4, 64), 4, false},
		{"no undo page", 73, with(3, 0, 64), 4, false},
		{"undo pages below none", 73, with(3, -1, 64), 4, false},
		{"too many undo pages", 2048, with(3, 33, 64), 4, false},
		{"no log", 73, with(3, 4, 0), 4, false},
		{"a log below none", 73, with(3, 4, -1), 4, false},
		{"the greatest numbers", 73, with(math.MaxInt, math.MaxInt, math.MaxInt), 4, false},
		{"the least numbers", 73, with(math.MinInt, math.MinInt, math.MinInt), 4, false},
		{"many pages, whose sum wraps round", 73, with(math.MaxInt, 3, 64), 4, false},
		{"many undo pages, whose sum wraps round", 73, with(3, math.MaxInt, 64), 4, false},
		{"a great log", 73, with(3, 4, math.MaxInt), 4, false},
		// These no master may have, but there are a log and a cache of them.
		{"a short log", 10, with(3, 4, 1), 4, true},
		{"a log one block short", 72, with(3, 4, 63), 4, true},
		{"a long log", 2048, with(3, 4, 513), 4, true},
		{"no timestamp", 73, api.Config{Pages: 3, Undo: 4, Log: 64}, 4, true},
		{"the greatest timestamp", 73, api.Config{Pages: 3, Undo: 4, Log: 64, MaxTs: math.MaxUint32}, 4, true},
		{"too few frames", 73, good, 3, false},
		{"no frames", 73, good, 0, false},
		{"frames below none", 73, good, -4, false},
		{"too many frames", 73, good, 33, false},
		{"the most frames", 73, good, math.MaxInt, false},
		{"the least frames", 73, good, math.MinInt, false},
	} {
		d := disk.New(c.blocks)
		b := New(d, c.f, c.frames, 1, nil, 0, 1)
		if (b != nil) != c.is {
			t.Errorf("%s: there are parts: %v", c.name, b != nil)
		}
		if d.Ops() != 0 {
			t.Errorf("%s: the disk was asked", c.name)
		}
		if b == nil {
			continue
		}
		if b.Disk() != d || b.Config() != c.f || b.Log() == nil || b.Cache() == nil || b.Room() == nil || b.Room().Live() != 0 {
			t.Errorf("%s: the parts aren't those of the store", c.name)
		}
	}
}

func TestNewWithoutPower(t *testing.T) { // P20.1: the disk isn't asked
	f := api.Config{Pages: 2, Undo: 2, Log: 64}
	d := blankDisk(f)
	d.Plan(nil, 1)
	d.Sync()
	b := New(d, f, 4, 1, nil, 0, 1)
	if !d.Down() || b == nil {
		t.Fatal("there are no parts without power")
	}
	if b.Change(setTo(1, 2)) != api.ErrDown || b.Learn() != api.ErrDown || b.Commit(3) != api.ErrDown {
		t.Error("without power the calls don't answer ErrDown")
	}
	d.Crash(nil)
	if b.Change(setTo(1, 2)) != api.OK || b.Learn() != api.OK || b.Commit(3) != api.OK {
		t.Error("with the power on again they aren't OK")
	}
}

func TestNewStarts(t *testing.T) { // P20.1
	f := api.Config{Pages: 1, Undo: 2, Log: 5, MaxTs: 9}
	starts := func(first uint32, offsets ...uint64) []api.Start {
		var list []api.Start
		for i, o := range offsets {
			list = append(list, api.Start{Number: first + uint32(i), Offset: o})
		}
		return list
	}
	for _, c := range []struct {
		name   string
		starts []api.Start
		number uint32
		end    uint64
		is     bool
	}{
		{"none", nil, 7, 90, true},
		{"an empty list", []api.Start{}, 7, 90, true},
		{"one", starts(6, 80), 7, 90, true},
		{"as many as blocks", starts(2, 10, 20, 30, 40, 50), 7, 90, true},
		{"one more", starts(1, 1, 10, 20, 30, 40, 50), 7, 90, false},
		{"not just ahead of the number", starts(4, 10, 20), 7, 90, false},
		{"behind the number", starts(6, 10, 20), 7, 90, false},
		{"a gap", []api.Start{{Number: 4, Offset: 1}, {Number: 6, Offset: 2}}, 7, 90, false},
		{"Offsets that fall", starts(5, 20, 10), 7, 90, false},
		{"an Offset at the end", starts(6, 90), 7, 90, true},
		{"an Offset above the end", starts(6, 91), 7, 90, false},
		{"round", starts(math.MaxUint32, 5, 6), 1, 90, true},
	} {
		b := New(blankDisk(f), f, 4, 3, c.starts, c.number, c.end)
		if (b != nil) != c.is {
			t.Errorf("%s: there are parts: %v", c.name, b != nil)
		}
		if b == nil {
			continue
		}
		want := numbers{end: c.end, durable: c.end, free: 5 - len(c.starts), tail: c.number - uint32(len(c.starts))}
		if got := numbersOf(b.Log()); got != want {
			t.Errorf("%s: the log says %+v, want %+v", c.name, got, want)
		}
	}
}

func TestNewGoesOn(t *testing.T) { // P20.1: the region, the epoch, the number and the end
	f := api.Config{Pages: 2, Undo: 3, Log: 5, MaxTs: 9}
	for _, number := range []uint32{0, 3, 4, 5, 8, 1<<31 - 1} {
		d := blankDisk(f)
		b := New(d, f, 4, 6, nil, number, 1000)
		if b.Commit(5) != api.OK {
			t.Fatal("Commit isn't OK")
		}
		text, _ := rec.Encode(api.Rec{Kind: api.RCommit, Ts: 5})
		want, _ := ring.Pack(api.Chunk{Epoch: 6, Number: number, Offset: 1000, Bytes: ring.Frame(text)})
		for i := range 5 {
			if got := d.Sure(7 + i); (got == want) != (uint32(i) == number%5) || got != want && got != (api.Block{}) {
				t.Errorf("the block %d isn't as the log's %d should leave it", 7+i, number)
			}
		}
	}
}

func TestNewStartsHandedIn(t *testing.T) { // P20.1, rule 4
	f := api.Config{Pages: 1, Undo: 1, Log: 5, MaxTs: 9}
	starts := []api.Start{{Number: 5, Offset: 10}, {Number: 6, Offset: 20}, {Number: 99, Offset: 99}}
	given := slices.Clone(starts)
	b := New(blankDisk(f), f, 4, 1, starts[:2], 7, 90)
	b.Commit(1)
	if !slices.Equal(starts, given) {
		t.Error("the starts were changed")
	}
	starts[0].Offset, starts[1].Offset = 90, 90
	if b.Log().From(15) != 5 || b.Log().From(20) != 6 {
		t.Error("the starts were kept")
	}
}

func TestNil(t *testing.T) { // P20.1, P20.3, P20.4
	var b *Base
	if b.Disk() != nil || b.Log() != nil || b.Cache() != nil || b.Room() != nil || b.Config() != (api.Config{}) {
		t.Error("nil parts have parts")
	}
	if e := b.Learn(); e != api.ErrArg {
		t.Errorf("Learn = %d", e)
	}
	for _, x := range []api.Rec{{}, setTo(1, 2), add(0, 0, 3), free(1, 1), cut(1, 1), {Kind: api.RCommit, Ts: 1}, {Kind: api.RImage}} {
		if e := b.Change(x); e != api.ErrArg {
			t.Errorf("Change(%+v) = %d", x, e)
		}
	}
	for _, ts := range []uint32{0, 1, math.MaxUint32} {
		if e := b.Commit(ts); e != api.ErrArg {
			t.Errorf("Commit(%d) = %d", ts, e)
		}
	}
}

// filled is a store with records in some of its undo pages, all of it on the disk; the parts are new.
func filled(t *testing.T, frames int) *rig {
	t.Helper()
	r := rigOf(t, 32, 5, 6, 64)
	r.do(add(1, 0, 66), add(1, 1, 66), add(1, 2, 30)) // no more than 2 bytes have room
	r.do(add(2, 0, 5), add(2, 1, 6), free(2, 0))
	r.do(add(4, 0, 66), free(4, 0)) // it had one
	r.do(add(5, 0, 0))
	r.write(pagesOf(r.f)[5+1], undo(2), undo(4), undo(5))
	r.d.Plan(nil, 0)
	r.b = New(r.d, r.f, frames, 2, nil, 9, 5000)
	if r.b == nil {
		t.Fatal("there are no parts")
	}
	return r
}

func TestLearn(t *testing.T) { // P20.2
	for _, frames := range []int{4, 5, 6, 32} {
		r := filled(t, frames)
		if r.b.Room().Live() != 0 {
			t.Error("the room knows of records before they were learnt")
		}
		r.want("Learn", r.b.Learn(), api.OK)
		r.wantOps("each undo page is read once", 6)
		r.wantHeld("Learn")
		want := []api.Ref{{Page: 2}, {Page: 2, Slot: 1}, {Page: 2, Slot: 2}, {Page: 3, Slot: 1}, {Page: 6}}
		if got := r.b.Room().Refs(); !slices.Equal(got, want) {
			t.Errorf("live are %v, want %v", got, want)
		}
		for no := range 6 {
			r.wantNoted("Learn", no, r.undoPage(uint16(no)))
		}
		if r.b.Room().Page(4).LSN == 0 || r.b.Room().Page(0).LSN != 0 {
			t.Error("the LSN of a page without a record isn't noted")
		}
		if numbersOf(r.b.Log()) != (numbers{end: 5000, durable: 5000, free: 64, tail: 9}) || len(r.b.Cache().Dirty()) != 0 {
			t.Error("Learn changes something")
		}
	}
}

func TestLearnFinds(t *testing.T) { // P20.2: what the room finds then
	r := filled(t, 4)
	if no, ok := r.b.Room().Find(66); no != 0 || !ok {
		t.Errorf("Find = %d, %v", no, ok)
	}
	r.do(add(0, 0, 66), add(0, 1, 66), add(0, 2, 30))
	r.write(undo(0))
	r.b = New(r.d, r.f, 4, 2, nil, 9, 9000)
	r.want("Learn", r.b.Learn(), api.OK)
	for _, c := range [][2]int{{66, 2}, {2, 2}, {0, 2}} {
		if no, ok := r.b.Room().Find(c[0]); no != c[1] || !ok {
			t.Errorf("Find(%d) = %d, %v, want %d", c[0], no, ok, c[1])
		}
	}
}

func TestLearnFull(t *testing.T) { // P20.2: all undo pages full
	r := rigOf(t, 4, 1, 3, 64)
	for no := range uint16(3) {
		r.do(add(no, 0, 66), add(no, 1, 66), add(no, 2, 32))
	}
	for _, id := range pagesOf(r.f) {
		r.visit(id)
		r.write(id)
	}
	r.b = New(r.d, r.f, 4, 2, nil, 30, 5000)
	r.want("Learn", r.b.Learn(), api.OK)
	if no, ok := r.b.Room().Find(1); ok || r.b.Room().Live() != 9 {
		t.Errorf("Find = %d, %v, with %d records", no, ok, r.b.Room().Live())
	}
}

func TestLearnCold(t *testing.T) { // P20.2: which pages are cold
	r := filled(t, 6)
	r.want("Learn", r.b.Learn(), api.OK)
	r.visit(data(0)) // cold are 0, 3 and 4: these go first, one behind the other
	r.wantResident("one", data(0), undo(1), undo(2), undo(3), undo(4), undo(5))
	r.visit(data(1))
	r.wantResident("two", data(0), data(1), undo(1), undo(2), undo(4), undo(5))
	r.visit(data(2))
	r.wantResident("three", data(0), data(1), data(2), undo(1), undo(2), undo(5))
	// Of the others each was seen: the hand stands behind the frame 4, and goes round to it.
	r.visit(data(3))
	r.wantResident("four", data(0), data(1), data(2), data(3), undo(1), undo(2))
}

func TestLearnFewFrames(t *testing.T) { // P20.2: pages that are cold go while others are learnt
	r := filled(t, 4)
	r.want("Learn", r.b.Learn(), api.OK)
	r.wantResident("0 and 3 were cold when a frame was wanted", undo(1), undo(2), undo(4), undo(5))
	r.visit(data(0))
	r.wantResident("4 is cold", undo(1), undo(2), data(0), undo(5))
}

func TestLearnWarm(t *testing.T) { // P20.2: of a page with live records it is said that it isn't cold
	r := filled(t, 6)
	r.visit(undo(5), undo(2))
	r.b.Cache().Cold(undo(5), true)
	r.b.Cache().Cold(undo(2), true)
	r.want("Learn", r.b.Learn(), api.OK)
	r.visit(data(0), data(1), data(2))
	r.wantResident("the cold ones went", undo(1), undo(2), undo(5), data(0), data(1), data(2))
}

func TestLearnAgain(t *testing.T) { // P20.2: what was noted wrongly is noted as it is; pages that are resident aren't read
	r := filled(t, 32)
	for no := range 6 {
		r.b.Room().Note(no, api.Undo{LSN: 4, Olds: []api.Old{{Live: true}}})
	}
	for i := range 3 {
		r.want("Learn", r.b.Learn(), api.OK)
		r.wantOps("read once", 6)
		if n := r.b.Room().Live(); n != 5 {
			t.Errorf("%d: %d records", i, n)
		}
	}
	r.do(free(5, 0))
	r.b.Room().Note(5, api.Undo{Olds: []api.Old{{Live: true}}})
	r.want("Learn", r.b.Learn(), api.OK)
	r.wantNoted("dirty", 5, r.undoPage(5))
}

func TestLearnTorn(t *testing.T) { // P20.2: a page whose block is none of it has no records
	r := filled(t, 4)
	r.d.Write(2+5+1, api.Block{1})
	r.d.Write(2+5+2, r.d.Seen(2+5+1+4)) // another one's
	r.want("Learn", r.b.Learn(), api.OK)
	r.wantNoted("torn", 1, api.Undo{})
	r.wantNoted("another one's", 2, api.Undo{})
	if got := r.b.Room().Refs(); !slices.Equal(got, []api.Ref{{Page: 6}}) {
		t.Errorf("live are %v", got)
	}
}

func TestLearnFails(t *testing.T) { // P20.2: at each fetch
	for _, frames := range []int{4, 32} {
		for k := 1; k <= 6; k++ {
			for _, plan := range failures(k) {
				r := filled(t, frames)
				r.d.Plan(plan.fails, plan.fuse)
				r.want("Learn", r.b.Learn(), plan.want)
				r.wantOps("no further page is asked for", k)
				r.wantHeld("a failure")
				live := []int{0, 0, 3, 4, 4, 4}[k-1]
				if got := r.b.Room().Live(); got != live {
					t.Errorf("behind a failure at %d there are %d records, want %d", k, got, live)
				}
				if plan.fuse > 0 {
					r.want("Learn without power", r.b.Learn(), api.ErrDown)
					r.d.Crash(nil)
				}
				r.want("Learn again", r.b.Learn(), api.OK)
				if got := r.b.Room().Live(); got != 5 {
					t.Errorf("again: %d records", got)
				}
			}
		}
	}
}

func TestLearnNoFrame(t *testing.T) { // P20.2
	r := filled(t, 4)
	r.hold(data(0), data(1), data(2))
	r.want("Learn with one frame", r.b.Learn(), api.OK)
	r.wantHeld("with one frame", data(0), data(1), data(2))
	r.hold(data(3))
	r.b.Room().Note(5, api.Undo{})
	r.want("Learn without a frame", r.b.Learn(), api.ErrNoFrame)
	r.wantHeld("without a frame", data(0), data(1), data(2), data(3))
	r.b.Cache().Unpin(data(2))
	r.want("Learn again", r.b.Learn(), api.OK)
	if r.b.Room().Live() != 5 {
		t.Errorf("%d records", r.b.Room().Live())
	}
}

func TestLearnWritesBack(t *testing.T) { // P20.2: the frames that Learn wants may have changes, and their writing back may fail
	for k := 1; k <= 5; k++ {
		for _, plan := range failures(k) {
			r := filled(t, 4)
			r.do(setTo(0, 1), setTo(1, 2), setTo(2, 3), setTo(3, 4))
			want := r.see(data(0))
			r.d.Plan(plan.fails, plan.fuse)
			r.want("Learn", r.b.Learn(), plan.want)
			r.wantOps("a failure", k)
			r.wantHeld("a failure")
			if plan.fuse > 0 {
				r.d.Crash(nil)
			}
			r.want("Learn again", r.b.Learn(), api.OK)
			if r.b.Room().Live() != 5 || r.see(data(0)) != want {
				t.Error("behind a failure something is lost")
			}
		}
	}
}

func TestChangeKinds(t *testing.T) { // P20.3: of each kind the page is what Redo makes of it, and the log tells it
	for _, c := range []struct {
		name  string
		ahead []api.Rec
		r     api.Rec
	}{
		{"RData", nil, setTo(2, 7)},
		{"RData of another version", []api.Rec{setTo(2, 6)}, setTo(2, 7)},
		{"RData of nothing", []api.Rec{setTo(2, 6)}, api.Rec{Kind: api.RData, Page: data(2)}},
		{"RData of the greatest", nil, api.Rec{Kind: api.RData, Page: data(2), Ts: math.MaxUint32, Prev: api.Ref{Page: math.MaxUint16, Slot: math.MaxUint8}, Delta: "\x00\x40" + strings.Repeat("\xff", 64)}},
		{"RAdd", nil, add(2, 0, 4)},
		{"RAdd behind others", []api.Rec{add(2, 0, 4), add(2, 1, 66)}, add(2, 2, 66)},
		{"RAdd in between", []api.Rec{add(2, 0, 4), add(2, 1, 6), free(2, 0)}, add(2, 0, 66)},
		{"RFree", []api.Rec{add(2, 0, 4), add(2, 1, 6)}, free(2, 0)},
		{"RFree of all", []api.Rec{add(2, 0, 4)}, free(2, 0)},
		{"RCut", []api.Rec{add(2, 0, 4), add(2, 1, 6)}, cut(2, 1)},
	} {
		for _, clean := range []bool{true, false} {
			r := rigOf(t, 4, 3, 3, 64)
			r.do(c.ahead...)
			if !clean && len(c.ahead) == 0 { // a change that leaves all but the LSN as it is
				if c.r.Page.Undo {
					r.do(add(2, 0, 1), free(2, 0))
				} else {
					r.do(api.Rec{Kind: api.RData, Page: data(2)})
				}
			}
			if clean {
				r.visit(c.r.Page)
				r.write(c.r.Page)
			}
			before := r.told()
			end := r.b.Log().End()
			want, e := apply.Redo(c.r.Page, r.see(c.r.Page), api.Entry{LSN: end, Rec: c.r})
			r.want("Redo", e, api.OK)
			r.want(c.name, r.b.Change(c.r), api.OK)
			if got := r.see(c.r.Page); got != want || page.LSN(got) != end {
				t.Errorf("%s: the page isn't what Redo makes of it", c.name)
			}
			r.wantHeld(c.name)
			if r.b.Cache().Clean(c.r.Page) || r.b.Log().End() <= end {
				t.Errorf("%s: the page is clean, or nothing was laid", c.name)
			}
			if clean {
				r.wantTold(c.name, append(before, api.Rec{Kind: api.RImage, Page: c.r.Page, Image: want})...)
			} else {
				r.wantTold(c.name, append(before, c.r)...)
			}
		}
	}
}

// state is all that changes leave in a store, but for which pages are resident.
type state struct {
	log   numbers
	dirty []api.Dirt
	room  []api.Undo
	pages []api.Payload
}

// stateOf looks at pages last, as that may make others come and go.
func (r *rig) stateOf() state {
	r.t.Helper()
	s := state{log: numbersOf(r.b.Log()), dirty: r.b.Cache().Dirty()}
	for no := range r.f.Undo {
		s.room = append(s.room, r.b.Room().Page(no))
	}
	for _, id := range pagesOf(r.f) {
		s.pages = append(s.pages, r.see(id))
	}
	return s
}

// wantState holds all against what it was.
func (r *rig) wantState(name string, want state) {
	r.t.Helper()
	got := r.stateOf()
	if got.log != want.log {
		r.t.Errorf("%s: the log says %+v, want %+v", name, got.log, want.log)
	}
	if !slices.Equal(got.dirty, want.dirty) {
		r.t.Errorf("%s: dirty are %v, want %v", name, got.dirty, want.dirty)
	}
	r.wantPages(name, got, want)
}

// wantPages holds what pages hold, and what was noted of them, against what it was.
func (r *rig) wantPages(name string, got, want state) {
	r.t.Helper()
	if !slices.Equal(got.pages, want.pages) {
		r.t.Errorf("%s: a page has changed", name)
	}
	if !slices.EqualFunc(got.room, want.room, sameUndo) {
		r.t.Errorf("%s: the room has changed", name)
	}
}

func TestChangeWrong(t *testing.T) { // P20.3, P20.4
	r := rigOf(t, 32, 3, 3, 64)
	r.do(setTo(1, 3), add(1, 0, 4))
	before := r.stateOf()
	wrong := func(of api.Rec, change func(r *api.Rec)) api.Rec {
		change(&of)
		return of
	}
	long := strings.Repeat("\x00", api.MaxDelta+1)
	list := []api.Rec{
		{},
		{Kind: api.RCommit},
		{Kind: api.RCommit, Ts: 5},
		{Kind: api.RImage, Page: data(1), Image: page.Blank(data(1))},
		{Kind: api.RImage, Page: undo(1), Image: page.Blank(undo(1))},
		{Kind: api.RImage},
		{Kind: api.RCommit + 1, Page: data(1)},
		{Kind: 255, Page: data(1)},
		{Kind: 0, Page: data(1), Ts: 4},
		wrong(setTo(1, 4), func(r *api.Rec) { r.Page.Undo = true }),
		wrong(setTo(1, 4), func(r *api.Rec) { r.Delta = long }),
		wrong(setTo(1, 4), func(r *api.Rec) { r.Slot = 1 }),
		wrong(setTo(1, 4), func(r *api.Rec) { r.Image[5] = 1 }),
		wrong(setTo(1, 4), func(r *api.Rec) { r.Old.Live = true }),
		wrong(add(1, 1, 4), func(r *api.Rec) { r.Page.Undo = false }),
		wrong(add(1, 1, 4), func(r *api.Rec) { r.Old.Live = false }),
		wrong(add(1, 1, 4), func(r *api.Rec) { r.Old.Delta = long }),
		wrong(add(1, 1, 4), func(r *api.Rec) { r.Ts = 1 }),
		wrong(free(1, 0), func(r *api.Rec) { r.Page.Undo = false }),
		wrong(free(1, 0), func(r *api.Rec) { r.Delta = "\x00\x01a" }),
		wrong(free(1, 0), func(r *api.Rec) { r.Prev.Page = 1 }),
		wrong(cut(1, 0), func(r *api.Rec) { r.Page.Undo = false }),
		wrong(cut(1, 0), func(r *api.Rec) { r.Old.Ts = 1 }),
	}
	for _, plan := range []failure{{}, {fuse: 1}} { // with the power and without
		r.d.Plan(nil, plan.fuse)
		if plan.fuse > 0 {
			r.d.Sync()
		}
		ops := r.d.Ops()
		for _, x := range list {
			if e := r.b.Change(x); e != api.ErrArg {
				t.Errorf("Change(%+v) = %d", x, e)
			}
		}
		r.wantOps("what may not be", ops)
	}
	r.d.Crash(nil)
	r.wantHeld("what may not be")
	r.wantState("what may not be", before)
}

func TestChangeNoPage(t *testing.T) { // P20.3, P20.4
	r := rigOf(t, 32, 3, 5, 64)
	r.do(setTo(1, 3), add(1, 0, 4))
	before := r.stateOf()
	ops := r.d.Ops()
	for _, x := range []api.Rec{
		setTo(3, 4), setTo(4, 4), setTo(8, 1), setTo(256, 4), setTo(257, 4), setTo(math.MaxUint16, 4),
		add(5, 0, 4), add(6, 0, 4), add(257, 1, 4), add(math.MaxUint16, 0, 4),
		free(5, 0), free(257, 0), cut(5, 0), cut(math.MaxUint16, math.MaxUint8),
	} {
		if e := r.b.Change(x); e != api.ErrArg {
			t.Errorf("Change(%+v) = %d", x, e)
		}
	}
	r.wantOps("no such page", ops)
	r.wantState("no such page", before)
	r.wantHeld("no such page")
}

func TestChangeRefused(t *testing.T) { // P20.3, P20.4: by Redo
	for _, clean := range []bool{false, true} {
		r := rigOf(t, 32, 3, 3, 64)
		r.do(setTo(1, 3), add(1, 0, 4), add(1, 1, 5), free(1, 0), add(2, 0, 66), add(2, 1, 66), add(2, 2, 30))
		if clean {
			r.write(data(1), undo(1), undo(2))
		}
		before := r.stateOf()
		for _, x := range []api.Rec{
			{Kind: api.RData, Page: data(1), Ts: 5, Delta: "\x00"},
			{Kind: api.RData, Page: data(1), Ts: 5, Delta: "\x40\x01a"},
			{Kind: api.RData, Page: data(2), Ts: 5, Delta: "\x00\x02a"},
			add(1, 1, 4), add(1, 2, 4), add(1, 255, 4), // the slot 0 is the one
			add(2, 3, 3), add(2, 0, 1), // there is no room, it isn't the slot
			add(0, 1, 4),
			free(0, 0), free(1, 0), free(1, 2), free(2, 3), free(2, 255),
			cut(0, 0), cut(1, 0), cut(1, 2), cut(2, 15),
		} {
			if e := r.b.Change(x); e != api.ErrForm {
				t.Errorf("Change(%+v) = %d", x, e)
			}
			r.wantHeld("refused")
		}
		r.wantState("refused", before)
	}
}

func TestChangeMany(t *testing.T) { // P20.3: an image whenever the page has been written back, whoever did that
	r := rigOf(t, 4, 6, 2, 64)
	var want []api.Rec
	r.do(setTo(0, 1))
	want = append(want, r.image(data(0)))
	r.do(setTo(0, 2), setTo(0, 3))
	want = append(want, setTo(0, 2), setTo(0, 3))
	r.visit(data(1), data(2), data(3), data(4), data(5)) // its frame was wanted
	if r.b.Cache().Resident(data(0)) {
		t.Fatal("the page has stayed")
	}
	r.do(setTo(0, 4))
	want = append(want, r.image(data(0)))
	r.do(setTo(0, 5))
	want = append(want, setTo(0, 5))
	r.want("Commit", r.b.Commit(5), api.OK) // what lasts of the log makes no page clean
	want = append(want, api.Rec{Kind: api.RCommit, Ts: 5})
	r.do(setTo(0, 6))
	want = append(want, setTo(0, 6))
	r.do(add(0, 0, 9))
	want = append(want, r.image(undo(0)))
	r.do(cut(0, 0), add(0, 1, 8))
	want = append(want, cut(0, 0), add(0, 1, 8))
	r.write(undo(0))
	r.do(free(0, 1))
	want = append(want, r.image(undo(0)))
	r.do(free(0, 0))
	want = append(want, free(0, 0))
	r.wantTold("many changes", want...)
}

func TestChangeWriteFails(t *testing.T) { // P20.3: a page whose writing back failed isn't clean
	for k := 1; k <= 4; k++ {
		r := rigOf(t, 4, 3, 3, 64)
		r.do(setTo(1, 1))
		want := []api.Rec{r.image(data(1))}
		r.d.Plan([]int{k}, 0)
		r.want("Write", r.b.Cache().Write(data(1)), api.ErrIO)
		r.do(setTo(1, 2))
		r.wantTold("a failure", append(want, setTo(1, 2))...)
	}
}

func TestChangeTorn(t *testing.T) { // P20.3: a page whose block tells nothing of it is blank, and clean
	for _, x := range []api.Rec{setTo(1, 5), add(1, 0, 6)} {
		r := rigOf(t, 4, 3, 3, 64)
		r.d.Write(cache.Place(3, x.Page), api.Block{7})
		want, _ := apply.Redo(x.Page, page.Blank(x.Page), api.Entry{LSN: 1, Rec: x})
		r.do(x)
		if r.see(x.Page) != want || r.b.Cache().Torn(x.Page) {
			t.Errorf("%v isn't as it should be", x.Page)
		}
		r.wantTold("torn", api.Rec{Kind: api.RImage, Page: x.Page, Image: want})
	}
}

func TestChangeFull(t *testing.T) { // P20.3, P20.4: a log that is full
	for blocks := 1; blocks <= 4; blocks++ {
		r := rigOf(t, 8, 3, 3, blocks)
		for r.b.Change(setTo(1, 1)) == api.OK {
		}
		before := r.stateOf()
		for _, x := range []api.Rec{setTo(1, 9), setTo(2, 9), add(0, 0, 66)} { // dirty, or not
			r.want("Change", r.b.Change(x), api.ErrFull)
			r.wantHeld("full")
		}
		r.wantState("full", before)
		if r.b.Log().Free() > 0 {
			t.Errorf("of %d blocks %d are free", blocks, r.b.Log().Free())
		}
		r.want("Change that Redo refuses", r.b.Change(free(0, 0)), api.ErrForm)
		r.want("Change of no page", r.b.Change(setTo(3, 1)), api.ErrArg)
		r.want("Flush", r.b.Log().Flush(), api.OK)
		r.b.Log().Trim(r.b.Log().End())
		r.do(setTo(1, 9))
		if d, _ := page.GetData(1, r.see(data(1))); d.Ts != 9 {
			t.Error("behind a Trim the page isn't changed")
		}
	}
}

func TestChangeFullByBytes(t *testing.T) { // P20.3: it is the image that has no room, where the record itself would
	r := rigOf(t, 8, 3, 3, 1)
	r.do(api.Rec{Kind: api.RData, Page: data(1), Ts: 1, Delta: "\x3f\x01a"})
	room := api.LogRoom - int(r.b.Log().End()-1)
	text, _ := rec.Encode(setTo(2, 2))
	if n := len(ring.Frame(text)); n > room {
		t.Fatalf("of %d bytes there is no room for %d", room, n)
	}
	for api.LogRoom-int(r.b.Log().End()-1) > 90 {
		r.do(setTo(1, 2))
	}
	r.want("an image", r.b.Change(api.Rec{Kind: api.RData, Page: data(2), Ts: 1, Delta: "\x3f\x01a"}), api.ErrFull)
	r.want("a record", r.b.Change(setTo(1, 3)), api.OK)
	// A blank page's image is short.
	if r.b.Cache().Clean(data(1)) || !r.b.Cache().Clean(data(2)) {
		t.Error("the pages aren't dirty and clean")
	}
}

func TestChangeNoFrame(t *testing.T) { // P20.3, P20.4
	r := rigOf(t, 4, 6, 3, 64)
	r.do(setTo(0, 1))
	r.hold(data(0), data(1), data(2), undo(0))
	end := r.b.Log().End()
	for _, x := range []api.Rec{setTo(3, 1), add(1, 0, 4), free(1, 0)} {
		r.want("Change", r.b.Change(x), api.ErrNoFrame)
	}
	if r.b.Log().End() != end || r.b.Room().Live() != 0 || len(r.b.Cache().Dirty()) != 1 {
		t.Error("without a frame something has changed")
	}
	r.want("Change of one that is held", r.b.Change(setTo(0, 2)), api.OK)
	r.want("Change of one that is held", r.b.Change(add(0, 0, 4)), api.OK)
	r.want("what Redo refuses", r.b.Change(free(0, 1)), api.ErrForm)
	r.wantHeld("no frame", data(0), data(1), data(2), undo(0))
	r.b.Cache().Unpin(data(2))
	r.want("Change with a frame", r.b.Change(setTo(3, 1)), api.OK)
	r.wantHeld("with a frame", data(0), data(1), undo(0))
}

func TestChangeFails(t *testing.T) { // P20.3, P20.4: at each place of the fetch: the log's write and sync, the page's, the read
	for k := 1; k <= 5; k++ {
		for _, plan := range failures(k) {
			for _, x := range []api.Rec{setTo(4, 9), add(2, 0, 9)} {
				r := rigOf(t, 4, 5, 3, 64)
				r.do(setTo(0, 1), setTo(1, 2), setTo(2, 3), setTo(3, 4))
				var seen []api.Payload
				for no := range uint16(4) {
					seen = append(seen, r.see(data(no)))
				}
				end := r.b.Log().End()
				r.d.Plan(plan.fails, plan.fuse)
				r.want("Change", r.b.Change(x), plan.want)
				r.wantOps("a failure", k)
				r.wantHeld("a failure")
				if r.b.Log().End() != end || r.b.Room().Live() != 0 || r.b.Cache().Resident(x.Page) {
					t.Errorf("behind a failure at %d something was laid, or put", k)
				}
				if plan.fuse > 0 {
					r.want("Change without power", r.b.Change(x), api.ErrDown)
					r.d.Crash(nil)
				}
				for no, p := range seen {
					if r.see(data(uint16(no))) != p {
						t.Errorf("behind a failure at %d the page %d has changed", k, no)
					}
				}
				r.want("Change again", r.b.Change(x), api.OK)
				want, _ := apply.Redo(x.Page, page.Blank(x.Page), api.Entry{LSN: end, Rec: x})
				if r.see(x.Page) != want {
					t.Errorf("again: %v isn't as it should be", x.Page)
				}
				r.wantHeld("again")
			}
		}
	}
}

func TestChangeAsksNoMore(t *testing.T) { // P20.3: a change of a resident page asks the disk for nothing, whatever the answer
	r := rigOf(t, 4, 3, 3, 64)
	r.visit(data(1), undo(1))
	r.d.Plan(nil, 1)
	r.want("Change", r.b.Change(setTo(1, 2)), api.OK)
	r.want("Change", r.b.Change(setTo(1, 3)), api.OK)
	r.want("Change", r.b.Change(add(1, 0, 5)), api.OK)
	r.want("Change", r.b.Change(free(1, 2)), api.ErrForm)
	r.wantOps("resident", 0)
	if r.b.Log().Durable() != 1 || r.d.Down() {
		t.Error("the log was flushed")
	}
}

func TestChangeHeld(t *testing.T) { // P20.3: it is given back just once
	r := rigOf(t, 4, 3, 3, 64)
	r.hold(data(1), data(1), undo(1))
	for _, x := range []api.Rec{setTo(1, 2), setTo(1, 3), add(1, 0, 5), free(1, 1), add(1, 1, 67), {Kind: api.RData, Page: data(1), Delta: "x"}} {
		r.b.Change(x)
		if n, m := r.b.Cache().Pins(data(1)), r.b.Cache().Pins(undo(1)); n != 2 || m != 1 {
			t.Errorf("behind Change(%+v) the pages are held %d and %d times", x, n, m)
		}
	}
}

func TestChangeNotes(t *testing.T) { // P20.3: an undo page is noted, as by Learn
	r := rigOf(t, 4, 6, 3, 64)
	for _, x := range []api.Rec{add(1, 0, 66), add(1, 1, 5), cut(1, 0), free(1, 0), add(1, 0, 3), free(1, 1), free(1, 0)} {
		r.do(x)
		r.wantNoted("a change", 1, r.undoPage(1))
		r.wantNoted("a change of another page", 0, api.Undo{})
		r.wantNoted("a change of another page", 2, api.Undo{})
	}
	if u := r.b.Room().Page(1); u.LSN == 0 || len(u.Olds) != 0 {
		t.Errorf("all freed: %v", u)
	}
	r.do(setTo(1, 5), setTo(2, 5)) // of a data page nothing is noted
	r.wantNoted("a data page", 2, api.Undo{})
	r.b.Room().Note(0, api.Undo{LSN: 44})
	r.do(setTo(0, 5))
	r.wantNoted("a data page", 0, api.Undo{LSN: 44})
}

func TestChangeCold(t *testing.T) { // P20.3: a page without a live record is cold, one with some isn't
	r := rigOf(t, 4, 6, 3, 64)
	r.do(add(1, 0, 5))
	r.visit(data(0), data(1), data(2))
	r.do(add(1, 1, 5), free(1, 0))
	r.visit(data(3)) // the hand goes round: all were seen
	r.wantResident("live", data(3), data(0+1), data(2), data(0))

	r = rigOf(t, 4, 6, 3, 64)
	r.visit(data(0), data(1))
	r.do(add(1, 0, 5), free(1, 0))
	r.visit(data(2), data(3))
	r.wantResident("none live", data(0), data(1), data(3), data(2))

	r = rigOf(t, 4, 6, 3, 64)
	r.visit(data(0), data(1))
	r.do(add(1, 0, 5), free(1, 0), add(1, 0, 7)) // cold, and then no more
	r.visit(data(2), data(3))
	r.wantResident("live again", data(3), data(1), undo(1), data(2))

	r = rigOf(t, 4, 6, 3, 64)
	r.visit(data(0), data(1))
	r.do(add(1, 0, 5), setTo(2, 3)) // a data page is never cold
	r.visit(data(3))
	r.wantResident("a data page", data(3), data(1), undo(1), data(2))
}

func TestChangeRefusedNotesNothing(t *testing.T) { // P20.3, P20.4
	r := rigOf(t, 4, 6, 3, 64)
	r.do(add(1, 0, 5))
	noted := api.Undo{LSN: 99}
	r.b.Room().Note(1, noted)
	r.b.Change(free(1, 3))
	r.b.Change(add(1, 5, 3))
	r.wantNoted("refused", 1, noted)
	r.do(cut(1, 0))
	r.wantNoted("changed", 1, r.undoPage(1))
}

func TestChangeHandedIn(t *testing.T) { // rule 4: records go as values
	r := rigOf(t, 4, 3, 3, 64)
	x := add(1, 0, 5)
	r.do(x)
	u := r.b.Room().Page(1)
	u.Olds[0].Ts = 12345
	if r.undoPage(1).Olds[0] != x.Old || r.b.Room().Page(1).Olds[0] != x.Old {
		t.Error("what was answered is kept")
	}
	f := r.b.Config()
	f.Pages = 1
	if r.b.Config() != r.f {
		t.Error("the Config has changed")
	}
}

func TestCommit(t *testing.T) { // P20.4
	r := rigOf(t, 4, 3, 3, 64)
	var want []api.Rec
	for _, ts := range []uint32{1, 0, math.MaxUint32, 1, 258} {
		r.d.Plan(nil, 0)
		end := r.b.Log().End()
		r.want("Commit", r.b.Commit(ts), api.OK)
		r.wantOps("a block and a sync", 2)
		want = append(want, api.Rec{Kind: api.RCommit, Ts: ts})
		if l := r.b.Log(); l.End() != end+11 || l.Durable() != l.End() || r.d.Pending() != 0 {
			t.Errorf("Commit(%d) doesn't last", ts)
		}
		if got := entriesOn(t, r.d, r.f); len(got) != len(want) || got[len(got)-1].Rec != want[len(want)-1] || got[len(got)-1].LSN != end {
			t.Errorf("Commit(%d) isn't told", ts)
		}
	}
	r.wantTold("commits", want...)
	if len(r.b.Cache().Dirty()) != 0 {
		t.Error("a page is dirty")
	}
	r.wantResident("no page is asked for")
}

func TestCommitChanges(t *testing.T) { // P20.4: all that was laid ahead of it lasts, and no page is written
	r := rigOf(t, 8, 3, 3, 64)
	r.do(setTo(1, 4), add(0, 0, 9), setTo(1, 5))
	before := r.stateOf()
	want := []api.Rec{
		{Kind: api.RImage, Page: data(1), Image: page.PutData(1, api.Data{LSN: 1, Ts: 4, Prev: api.Ref{Page: 2, Slot: 3}, Body: api.Body{5: 4, 6: 1}})},
		r.image(undo(0)), setTo(1, 5), {Kind: api.RCommit, Ts: 5},
	}
	r.want("Commit", r.b.Commit(5), api.OK)
	r.d.Plan(nil, 1)
	r.d.Sync()
	r.d.Crash(nil)
	var got []api.Rec
	for _, x := range entriesOn(t, r.d, r.f) {
		got = append(got, x.Rec)
	}
	if !slices.Equal(got, want) {
		t.Error("the log doesn't tell what was laid ahead of a Commit")
	}
	after := r.stateOf()
	r.wantPages("Commit", after, before)
	if !slices.Equal(after.dirty, before.dirty) || r.d.Sure(3) != seal.Seal(0, page.Blank(data(1))) {
		t.Error("a page was written")
	}
}

func TestCommitFull(t *testing.T) { // P20.4
	r := rigOf(t, 8, 3, 3, 2)
	r.do(setTo(1, 1))
	n := 0
	for ; r.b.Commit(uint32(n)) == api.OK; n++ {
	}
	if n != 2 {
		t.Errorf("%d commits in two blocks", n)
	}
	before := r.stateOf()
	r.d.Plan(nil, 0)
	r.want("Commit", r.b.Commit(7), api.ErrFull)
	r.wantOps("full", 0)
	r.wantState("full", before)

	r = rigOf(t, 8, 3, 3, 1) // what can't be laid isn't flushed, either
	r.do(add(0, 0, 1))
	for r.b.Change(cut(0, 0)) == api.OK { // of 10 bytes, where an RCommit has 11
	}
	if left := api.LogRoom - int(r.b.Log().End()-1); left >= 11 {
		t.Fatalf("%d bytes are left", left)
	}
	before = r.stateOf()
	r.d.Plan(nil, 0)
	r.want("Commit", r.b.Commit(7), api.ErrFull)
	r.wantOps("full", 0)
	r.wantState("full", before)
}

func TestCommitFails(t *testing.T) { // P20.4: of a fresh log, and of one that isn't
	for _, again := range []bool{false, true} {
		for k := 1; k <= 2; k++ {
			for _, plan := range failures(k) {
				r := rigOf(t, 8, 3, 3, 64)
				if again {
					r.want("Commit", r.b.Commit(1), api.OK)
				}
				r.do(setTo(1, 2))
				before := r.stateOf()
				end := r.b.Log().End()
				r.d.Plan(plan.fails, plan.fuse)
				r.want("Commit", r.b.Commit(2), plan.want)
				r.wantOps("a failure", k)
				after := numbersOf(r.b.Log())
				if after.end != end+11 || after.durable != before.log.durable {
					t.Errorf("behind a failure at %d the log says %+v", k, after)
				}
				if plan.fuse > 0 {
					r.want("Commit without power", r.b.Commit(3), api.ErrDown)
					r.d.Crash(nil)
				}
				r.wantPages("a failure", r.stateOf(), before)
				r.want("Commit again", r.b.Commit(4), api.OK)
				list := r.told()
				if r.b.Log().Durable() != r.b.Log().End() || list[len(list)-1] != (api.Rec{Kind: api.RCommit, Ts: 4}) {
					t.Error("again: it doesn't last")
				}
				if !slices.Contains(list, api.Rec{Kind: api.RCommit, Ts: 2}) {
					t.Error("what was laid by a Commit that failed isn't told")
				}
			}
		}
	}
}

func TestAlone(t *testing.T) { // rule 6
	a, b := rigOf(t, 4, 3, 3, 64), rigOf(t, 5, 4, 2, 64)
	a.do(setTo(1, 4), add(1, 0, 5))
	b.do(setTo(2, 9))
	b.want("Commit", b.b.Commit(9), api.OK)
	if a.b.Log().Durable() != 1 || a.b.Room().Live() != 1 || b.b.Room().Live() != 0 || a.b.Config() == b.b.Config() {
		t.Error("parts know of each other")
	}
	b.wantTold("the other", b.image(data(2)), api.Rec{Kind: api.RCommit, Ts: 9})
}
