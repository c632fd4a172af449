package cache

import (
	"math"
	"slices"
	"strconv"
	"testing"

	"varve/api"
	"varve/disk"
	"varve/log"
	"varve/page"
	"varve/seal"
)

// logBlocks is how many blocks the logs have with which caches are tested.
const logBlocks = 24

func data(no uint16) api.PageID { return api.PageID{No: no} }
func undo(no uint16) api.PageID { return api.PageID{Undo: true, No: no} }

// payloadOf is a page's payload with this LSN, and with a number that tells it from others.
func payloadOf(id api.PageID, lsn uint64, mark uint32) api.Payload {
	if id.Undo {
		p, _ := page.PutUndo(id.No, api.Undo{LSN: lsn, Olds: []api.Old{{Live: true, Ts: mark}}})
		return p
	}
	return page.PutData(id.No, api.Data{LSN: lsn, Ts: mark})
}

// rig is a cache over a disk and a log.
type rig struct {
	t           *testing.T
	d           *disk.Disk
	l           *log.Log
	c           *Cache
	pages, undo int
}

// rigOf is one over blocks of noughts: the pages' as a store has them, the log's behind them.
func rigOf(t *testing.T, frames, pages, undo int) *rig {
	t.Helper()
	at := 2 + pages + undo
	d := disk.New(at + logBlocks)
	l := log.New(d, at, logBlocks, 1, nil, 0, 1)
	c := New(d, l, frames, pages, undo)
	if c == nil {
		t.Fatalf("New(.., %d, %d, %d) is nil", frames, pages, undo)
	}
	return &rig{t: t, d: d, l: l, c: c, pages: pages, undo: undo}
}

// all are the cache's pages, in the order of their blocks.
func (r *rig) all() []api.PageID {
	var list []api.PageID
	for i := range r.pages {
		list = append(list, data(uint16(i)))
	}
	for i := range r.undo {
		list = append(list, undo(uint16(i)))
	}
	return list
}

// none are pages that there aren't.
func (r *rig) none() []api.PageID {
	p, u := uint16(r.pages), uint16(r.undo)
	return []api.PageID{data(p), undo(u), data(p + 1), undo(u + 1), data(p + u), undo(p + u + 2), data(65535), undo(65535)}
}

func (r *rig) ids() []api.PageID {
	return append(r.all(), r.none()...)
}

// format writes a blank page to each of the pages' blocks.
func (r *rig) format() {
	r.t.Helper()
	for i, id := range r.all() {
		r.lay(2+i, seal.Seal(0, page.Blank(id)))
	}
	r.d.Plan(nil, 0)
}

// lay makes a block last.
func (r *rig) lay(b int, x api.Block) {
	r.t.Helper()
	if r.d.Write(b, x) != api.OK || r.d.Sync() != api.OK {
		r.t.Fatal("the disk refuses")
	}
}

func (r *rig) wantErr(name string, got, want api.Errno) {
	r.t.Helper()
	if got != want {
		r.t.Errorf("%s = %d, want %d", name, got, want)
	}
}

func (r *rig) wantFetch(id api.PageID, want api.Payload) {
	r.t.Helper()
	p, e := r.c.Fetch(id)
	if e != api.OK || p != want {
		r.t.Errorf("Fetch(%v) = %d, the payload wanted: %v", id, e, p == want)
	}
}

// wantRefused holds what Fetch answers against an error.
func (r *rig) wantRefused(id api.PageID, want api.Errno) {
	r.t.Helper()
	p, e := r.c.Fetch(id)
	if e != want || p != (api.Payload{}) {
		r.t.Errorf("Fetch(%v) = %d, want %d, noughts: %v", id, e, want, p == (api.Payload{}))
	}
}

// pass fetches pages, and gives each back.
func (r *rig) pass(list ...api.PageID) {
	r.t.Helper()
	for _, id := range list {
		if _, e := r.c.Fetch(id); e != api.OK {
			r.t.Fatalf("Fetch(%v) = %d", id, e)
		}
		r.wantErr("Unpin", r.c.Unpin(id), api.OK)
	}
}

// change lays a text in the log, and puts a payload with its LSN to a page, for which it is fetched.
func (r *rig) change(id api.PageID, mark uint32) api.Payload {
	r.t.Helper()
	at, e := r.l.Append("a change")
	r.wantErr("Append", e, api.OK)
	p := payloadOf(id, at, mark)
	if _, e := r.c.Fetch(id); e != api.OK {
		r.t.Fatalf("Fetch(%v) = %d", id, e)
	}
	r.wantErr("Put", r.c.Put(id, p), api.OK)
	r.wantErr("Unpin", r.c.Unpin(id), api.OK)
	return p
}

// wantResident holds the pages that are resident against these.
func (r *rig) wantResident(name string, want ...api.PageID) {
	r.t.Helper()
	for _, id := range r.all() {
		if got := r.c.Resident(id); got != slices.Contains(want, id) {
			r.t.Errorf("%s: Resident(%v) = %v", name, id, got)
		}
	}
}

// wantOps holds the number of the disk's operations since the last time against one.
func (r *rig) wantOps(name string, want int) {
	r.t.Helper()
	if n := r.d.Ops(); n != want {
		r.t.Errorf("%s: %d operations, want %d", name, n, want)
	}
	r.d.Plan(nil, 0)
}

func (r *rig) wantDirty(name string, want ...api.Dirt) {
	r.t.Helper()
	if got := r.c.Dirty(); !slices.Equal(got, want) {
		r.t.Errorf("%s: Dirty = %v, want %v", name, got, want)
	}
}

// wantOnDisk holds what a page's block is for sure against a payload, sealed with its LSN.
func (r *rig) wantOnDisk(name string, id api.PageID, want api.Payload) {
	r.t.Helper()
	if r.d.Sure(placeOf(r, id)) != seal.Seal(page.LSN(want), want) {
		r.t.Errorf("%s: the block of %v isn't as it should be", name, id)
	}
}

func placeOf(r *rig, id api.PageID) int {
	if id.Undo {
		return 2 + r.pages + int(id.No)
	}
	return 2 + int(id.No)
}

// status is what a cache says of a page.
type status struct {
	resident, clean, torn bool
	pins                  int
}

func statusOf(c *Cache, id api.PageID) status {
	return status{resident: c.Resident(id), clean: c.Clean(id), torn: c.Torn(id), pins: c.Pins(id)}
}

func (r *rig) wantStatus(name string, id api.PageID, want status) {
	r.t.Helper()
	if got := statusOf(r.c, id); got != want {
		r.t.Errorf("%s: of %v it is said %+v, want %+v", name, id, got, want)
	}
}

// away is what is said of a page that isn't resident.
func away() status { return status{clean: true} }

// exampleOf is the chapter's example up to where the fifth page is asked for.
func exampleOf(t *testing.T) (*rig, api.Payload) {
	t.Helper()
	r := rigOf(t, 4, 5, 1)
	r.format()
	p := r.change(data(0), 7)
	r.pass(data(1), data(2), data(3))
	r.wantOps("four pages", 4)
	r.wantResident("four pages", data(0), data(1), data(2), data(3))
	return r, p
}

func TestExample(t *testing.T) { // P13.2, P13.3, P13.5
	r, p := exampleOf(t)
	r.wantFetch(data(4), page.Blank(data(4)))
	r.wantOps("the fifth page", 5)
	r.wantResident("the fifth page", data(1), data(2), data(3), data(4))
	r.wantOnDisk("the fifth page", data(0), p)
	r.wantDirty("the fifth page")
	if r.l.Durable() != 15 {
		t.Errorf("Durable = %d", r.l.Durable())
	}
}

func TestExampleOrder(t *testing.T) { // P13.3: each operation in its place, as the power tells that goes at it
	const logBlock = 2 + 5 + 1
	blank := seal.Seal(0, page.Blank(data(0)))
	for fuse := 1; fuse <= 5; fuse++ {
		r, p := exampleOf(t)
		newer := seal.Seal(1, p)
		r.d.Plan(nil, fuse)
		r.wantRefused(data(4), api.ErrDown)
		told := r.d.Seen(logBlock) != api.Block{}
		lasts := r.d.Sure(logBlock) != api.Block{}
		if told != (fuse > 1) || lasts != (fuse > 2) || (r.l.Durable() == 15) != (fuse > 2) {
			t.Errorf("the power goes at %d: the log is told %v, lasts %v, up to %d", fuse, told, lasts, r.l.Durable())
		}
		if (r.d.Seen(2) == newer) != (fuse > 3) || (r.d.Sure(2) == newer) != (fuse > 4) || fuse <= 3 && r.d.Seen(2) != blank {
			t.Errorf("the power goes at %d: the page is on the disk otherwise", fuse)
		}
		r.wantStatus("the power goes", data(0), status{resident: true, clean: fuse > 4})
		r.wantStatus("the power goes", data(4), away())
		r.wantResident("the power goes", data(0), data(1), data(2), data(3))
	}
}

func TestPlace(t *testing.T) { // P13.1
	for _, c := range []struct {
		pages int
		id    api.PageID
		want  int
	}{
		{4, data(0), 2}, {4, data(3), 5}, {4, undo(0), 6}, {4, undo(5), 11},
		{1, data(0), 2}, {1, undo(0), 3}, {16, data(15), 17}, {16, undo(0), 18}, {16, undo(31), 49},
		{4, data(4), 6}, {0, undo(0), 2}, {0, data(7), 9}, {4, data(65535), 65537}, {4, undo(65535), 65541},
		{-3, undo(5), 4}, {-3, data(5), 7}, {math.MaxInt - 2, undo(0), math.MaxInt}, {math.MinInt, undo(3), math.MinInt + 5}, {math.MaxInt, data(1), 3},
	} {
		if got := Place(c.pages, c.id); got != c.want {
			t.Errorf("Place(%d, %v) = %d, want %d", c.pages, c.id, got, c.want)
		}
	}
}

func TestNew(t *testing.T) { // P13.1
	d := disk.New(200)
	l := log.New(d, 100, 100, 1, nil, 0, 1)
	for _, c := range []struct {
		frames, pages, undo int
		is                  bool
	}{
		{4, 1, 1, true}, {32, 1, 1, true}, {3, 1, 1, false}, {33, 1, 1, false}, {0, 1, 1, false}, {-4, 1, 1, false}, {5, 3, 3, true},
		{4, 16, 1, true}, {4, 0, 1, false}, {4, 17, 1, false}, {4, -1, 1, false},
		{4, 1, 32, true}, {4, 1, 0, false}, {4, 1, 33, false}, {4, 1, -1, false}, {32, 16, 32, true},
		{math.MaxInt, 1, 1, false}, {math.MinInt, 1, 1, false}, {4, math.MaxInt, 1, false}, {4, math.MinInt, 1, false}, {4, 1, math.MaxInt, false}, {4, 1, math.MinInt, false},
		{4, math.MaxInt, math.MaxInt, false}, {4, math.MinInt, math.MinInt, false}, {4, math.MaxInt, math.MinInt, false},
	} {
		got := New(d, l, c.frames, c.pages, c.undo)
		if (got != nil) != c.is {
			t.Errorf("New(.., %d, %d, %d) is there: %v", c.frames, c.pages, c.undo, got != nil)
		}
		if New(nil, l, c.frames, c.pages, c.undo) != nil || New(d, nil, c.frames, c.pages, c.undo) != nil || New(nil, nil, c.frames, c.pages, c.undo) != nil {
			t.Errorf("New(.., %d, %d, %d) without a disk or a log is there", c.frames, c.pages, c.undo)
		}
		if c.is && len(got.Dirty()) != 0 {
			t.Error("a new cache has dirty pages")
		}
		for no := range uint16(34) {
			if c.is && (statusOf(got, data(no)) != away() || statusOf(got, undo(no)) != away()) {
				t.Errorf("a new cache has a page %d", no)
			}
		}
	}
	if d.Ops() != 0 {
		t.Error("New has asked the disk")
	}
}

func TestNewDisk(t *testing.T) { // P13.1
	for _, c := range [][3]int{{1, 1, 4}, {16, 32, 50}, {5, 6, 13}, {16, 1, 19}, {1, 32, 35}} {
		other := disk.New(64)
		l := log.New(other, 0, 64, 1, nil, 0, 1) // the log may be on another disk
		if New(disk.New(c[2]), l, 4, c[0], c[1]) == nil {
			t.Errorf("New over %d blocks for %d and %d pages is nil", c[2], c[0], c[1])
		}
		if New(disk.New(c[2]-1), l, 4, c[0], c[1]) != nil || New(disk.New(1), l, 4, c[0], c[1]) != nil {
			t.Errorf("New over fewer than %d blocks for %d and %d pages is there", c[2], c[0], c[1])
		}
		if New(disk.New(2048), l, 4, c[0], c[1]) == nil {
			t.Error("New over the greatest disk is nil")
		}
	}
	d := disk.New(40)
	l := log.New(d, 20, 20, 1, nil, 0, 1)
	d.Plan(nil, 1)
	d.Sync()
	c := New(d, l, 4, 2, 2)
	if _, e := c.Fetch(data(0)); e != api.ErrDown || c.Resident(data(0)) {
		t.Errorf("without power Fetch = %d", e)
	}
}

func TestLastBlock(t *testing.T) { // P13.1, P13.3: all pages of a disk of just as many blocks are there
	d := disk.New(50)
	other := disk.New(64)
	c := New(d, log.New(other, 0, 64, 1, nil, 0, 1), 32, 16, 32)
	for i := range 48 {
		id := data(uint16(i))
		if i >= 16 {
			id = undo(uint16(i - 16))
		}
		if _, e := c.Fetch(id); e != api.OK || !c.Torn(id) {
			t.Fatalf("Fetch(%v) = %d", id, e)
		}
		p := payloadOf(id, 0, uint32(i))
		if c.Put(id, p) != api.OK || c.Write(id) != api.OK || c.Unpin(id) != api.OK || d.Sure(2+i) != seal.Seal(0, p) {
			t.Fatalf("%v isn't in the block %d", id, 2+i)
		}
	}
}

func TestNil(t *testing.T) { // P13.1
	var c *Cache
	for _, id := range []api.PageID{data(0), undo(0), data(15), undo(31), data(65535), undo(65535)} {
		p, e := c.Fetch(id)
		if e != api.ErrArg || p != (api.Payload{}) {
			t.Errorf("Fetch of a nil cache = %d", e)
		}
		if c.Unpin(id) != api.ErrArg || c.Put(id, page.Blank(id)) != api.ErrArg || c.Write(id) != api.ErrArg {
			t.Error("Unpin, Put or Write of a nil cache isn't refused")
		}
		c.Cold(id, true)
		c.Cold(id, false)
		if statusOf(c, id) != away() || len(c.Dirty()) != 0 {
			t.Error("a nil cache has a page")
		}
	}
}

func TestNoSuchPage(t *testing.T) { // P13.2, P13.4, P13.5, P13.6
	for _, n := range [][2]int{{3, 5}, {5, 3}, {1, 1}, {16, 32}, {4, 4}} {
		r := rigOf(t, 4, n[0], n[1])
		r.format()
		r.change(data(0), 4)
		r.wantFetch(undo(0), page.Blank(undo(0)))
		r.d.Plan(nil, 0)
		for _, id := range r.none() {
			if !id.Undo && int(id.No) < r.pages || id.Undo && int(id.No) < r.undo {
				t.Fatalf("%v is there", id)
			}
			r.wantRefused(id, api.ErrArg)
			r.wantErr("Unpin", r.c.Unpin(id), api.ErrArg)
			r.wantErr("Put", r.c.Put(id, page.Blank(id)), api.ErrArg)
			r.wantErr("Write", r.c.Write(id), api.ErrArg)
			r.c.Cold(id, true)
			r.c.Cold(id, false)
			r.wantStatus("no such page", id, away())
		}
		r.wantDirty("no such page", api.Dirt{Page: data(0), LSN: 1})
		r.wantStatus("no such page", data(0), status{resident: true})
		r.wantStatus("no such page", undo(0), status{resident: true, clean: true, pins: 1})
		r.wantOps("no such page", 0)
		for _, id := range []api.PageID{data(uint16(n[0] - 1)), undo(uint16(n[1] - 1))} {
			if _, e := r.c.Fetch(id); e != api.OK {
				t.Errorf("Fetch of the last one, %v = %d", id, e)
			}
		}
	}
}

func TestNoSuchPageFirst(t *testing.T) { // P13.2, rule 1: ErrArg is named ahead of all other errors
	r := rigOf(t, 4, 4, 1)
	for i := range 4 {
		r.c.Fetch(data(uint16(i)))
	}
	r.wantRefused(data(4), api.ErrArg)
	r.wantRefused(undo(1), api.ErrArg)
	r.wantRefused(undo(0), api.ErrNoFrame)
	r.d.Plan(nil, 1)
	r.d.Sync()
	r.wantRefused(data(4), api.ErrArg)
	r.wantRefused(undo(0), api.ErrNoFrame)
	r.wantErr("Write", r.c.Write(undo(0)), api.ErrArg)
}

func TestFetchResident(t *testing.T) { // P13.2
	r := rigOf(t, 4, 6, 1)
	r.format()
	id := data(2)
	for n := 1; n <= 3; n++ {
		r.wantFetch(id, page.Blank(id))
		r.wantStatus("fetched", id, status{resident: true, clean: true, pins: n})
	}
	r.wantOps("one page fetched three times", 1)
	// What is on the disk meanwhile makes no difference to a page that is resident.
	r.lay(4, seal.Seal(9, payloadOf(id, 9, 9)))
	r.wantFetch(id, page.Blank(id))
	p := payloadOf(id, 1, 8)
	r.wantErr("Put", r.c.Put(id, p), api.OK)
	r.d.Plan(nil, 1)
	r.d.Sync() // nor does it, whether there is power
	r.wantFetch(id, p)
	for n := 4; n >= 0; n-- {
		r.wantErr("Unpin", r.c.Unpin(id), api.OK)
		r.wantStatus("given back", id, status{resident: true, pins: n})
	}
	r.wantErr("Unpin", r.c.Unpin(id), api.ErrArg)
	r.wantFetch(id, p)
	r.wantStatus("fetched again", id, status{resident: true, pins: 1})
}

func TestFetchTouches(t *testing.T) { // P13.2, P13.3
	r := rigOf(t, 4, 8, 1)
	r.format()
	r.pass(data(0), data(1), data(2), data(3), data(4)) // all were touched: 0 goes, and the others are seen no more
	r.wantResident("all touched", data(4), data(1), data(2), data(3))
	r.pass(data(1)) // touched again, as it is resident
	r.pass(data(5))
	r.wantResident("1 touched again", data(4), data(1), data(5), data(3))
	// The hand stands at 3; the frames of 4 and 5 were touched when they were read, that of 1 has been passed over.
	r.pass(data(6))
	r.wantResident("from 3 on", data(4), data(1), data(5), data(6))
	r.pass(data(7))
	r.wantResident("from 0 on", data(4), data(7), data(5), data(6))
}

func TestFreshFramesFirst(t *testing.T) { // P13.3
	for _, frames := range []int{4, 5, 31, 32} {
		r := rigOf(t, frames, 16, 32)
		r.format()
		list := r.all()
		for i, id := range list[:frames] {
			r.pass(id)
			r.c.Cold(id, true) // not even a cold one is given up while a frame is left
			r.wantResident("frames are left", list[:i+1]...)
		}
		r.wantOps("frames are left", frames)
		for i := range frames { // they were taken up by rising numbers, as the hand goes over the cold ones
			r.pass(list[frames])
			if r.c.Resident(list[i]) {
				t.Errorf("with %d frames %v is still resident", frames, list[i])
			}
			r.c.Cold(list[frames], true)
			list[frames], list[i] = list[i], list[frames]
			r.wantResident("none is left", list[:frames]...)
		}
	}
}

func TestFreshFrameStaysFresh(t *testing.T) { // P13.3: a frame whose page couldn't be read never had one
	r := rigOf(t, 4, 8, 1)
	r.format()
	r.pass(data(0), data(1))
	for _, plan := range []struct {
		fails []int
		fuse  int
		want  api.Errno
	}{{[]int{1}, 0, api.ErrIO}, {nil, 1, api.ErrDown}} {
		r.d.Plan(plan.fails, plan.fuse)
		r.wantRefused(data(2), plan.want)
		r.wantResident("the read fails", data(0), data(1))
		r.d.Crash(nil)
	}
	r.pass(data(2), data(3))
	r.wantResident("read", data(0), data(1), data(2), data(3))
	r.pass(data(4))
	r.wantResident("none is left", data(4), data(1), data(2), data(3))
}

func TestNoFrame(t *testing.T) { // P13.3
	r := rigOf(t, 4, 8, 2)
	r.format()
	for i := range 4 {
		r.wantFetch(data(uint16(i)), page.Blank(data(uint16(i))))
	}
	at, _ := r.l.Append("a change")
	p := payloadOf(data(1), at, 3)
	r.wantErr("Put", r.c.Put(data(1), p), api.OK)
	r.c.Cold(data(2), true)
	r.wantOps("four pages", 4)
	for range 3 {
		r.wantRefused(data(4), api.ErrNoFrame)
		r.wantRefused(undo(1), api.ErrNoFrame)
	}
	r.wantOps("all held", 0)
	r.wantDirty("all held", api.Dirt{Page: data(1), LSN: at})
	r.wantFetch(data(3), page.Blank(data(3))) // what is resident is there all the same
	for i, n := range []int{1, 1, 1, 2} {
		r.wantStatus("all held", data(uint16(i)), status{resident: true, clean: i != 1, pins: n})
	}
	r.wantErr("Unpin", r.c.Unpin(data(3)), api.OK)
	r.wantRefused(data(4), api.ErrNoFrame) // 3 was held twice
	r.wantErr("Unpin", r.c.Unpin(data(3)), api.OK)
	r.wantFetch(data(4), page.Blank(data(4)))
	r.wantResident("one given back", data(0), data(1), data(2), data(4))
}

func TestVictimClean(t *testing.T) { // P13.3
	r := rigOf(t, 4, 8, 1)
	r.format()
	r.pass(data(0), data(1), data(2), data(3))
	r.l.Append("what the page doesn't need")
	r.d.Plan(nil, 0)
	r.wantFetch(data(4), page.Blank(data(4)))
	r.wantOps("one that isn't dirty goes", 1)
	if r.l.Durable() != 1 {
		t.Error("the log was flushed for a page that isn't dirty")
	}
}

func TestHeldStays(t *testing.T) { // P13.3, P13.7
	r := rigOf(t, 4, 8, 8)
	r.format()
	r.wantFetch(data(0), page.Blank(data(0)))
	r.c.Cold(data(0), true)
	for range 3 {
		for _, id := range r.all()[1:] {
			r.pass(id)
			r.wantStatus("held", data(0), status{resident: true, clean: true, pins: 1})
		}
	}
}

// laidOut is a log that lasts up to 41, and ends at 61, with a page that has this LSN and is dirty.
func laidOut(t *testing.T, lsn uint64) *rig {
	t.Helper()
	r := rigOf(t, 4, 8, 1)
	r.format()
	for range 2 {
		r.l.Append("fourteen bytes")
	}
	r.wantErr("Flush", r.l.Flush(), api.OK)
	r.l.Append("fourteen bytes")
	if r.l.Durable() != 41 || r.l.End() != 61 {
		t.Fatalf("the log: %d, %d", r.l.Durable(), r.l.End())
	}
	r.wantFetch(data(1), page.Blank(data(1)))
	r.wantErr("Put", r.c.Put(data(1), payloadOf(data(1), lsn, 5)), api.OK)
	r.wantErr("Unpin", r.c.Unpin(data(1)), api.OK)
	r.d.Plan(nil, 0)
	return r
}

func TestLogFirst(t *testing.T) { // P13.3, P13.5
	for _, c := range []struct {
		lsn     uint64
		flushed bool
	}{
		{0, false}, {1, false}, {21, false}, {40, false}, {41, true}, {42, true}, {60, true}, {61, true}, {62, true}, {1000, true}, {math.MaxUint64, true},
	} {
		ops, durable := 2, uint64(41)
		if c.flushed {
			ops, durable = 4, 61
		}
		name := "the LSN " + strconv.FormatUint(c.lsn, 10)
		for _, way := range []string{"Write", "Fetch"} {
			r := laidOut(t, c.lsn)
			if way == "Write" {
				r.wantErr("Write", r.c.Write(data(1)), api.OK)
				r.wantOps(name, ops)
				r.wantStatus(name, data(1), status{resident: true, clean: true})
			} else {
				r.pass(data(0), data(2), data(3), data(4))
				r.wantOps(name, ops+4)
				r.wantStatus(name, data(1), away())
			}
			if r.l.Durable() != durable {
				t.Errorf("%s: %s, then Durable %d, want %d", name, way, r.l.Durable(), durable)
			}
			r.wantOnDisk(name, data(1), payloadOf(data(1), c.lsn, 5))
			r.wantDirty(name)
		}
	}
}

func TestNothingToFlush(t *testing.T) { // P13.3, P13.5: a log that ends at the LSN has nothing that the disk is asked for
	r := rigOf(t, 4, 2, 2)
	r.format()
	r.wantFetch(undo(1), page.Blank(undo(1)))
	p := payloadOf(undo(1), 1, 5)
	r.wantErr("Put", r.c.Put(undo(1), p), api.OK)
	r.d.Plan(nil, 0)
	r.wantErr("Write", r.c.Write(undo(1)), api.OK)
	r.wantOps("nothing to flush", 2)
	r.wantOnDisk("nothing to flush", undo(1), p)
	if r.l.Durable() != 1 {
		t.Errorf("Durable = %d", r.l.Durable())
	}
}

func TestWrite(t *testing.T) { // P13.5
	r := rigOf(t, 4, 6, 3)
	r.format()
	r.wantErr("Write of a page that isn't resident", r.c.Write(undo(2)), api.ErrArg)
	r.wantFetch(undo(2), page.Blank(undo(2)))
	r.wantOps("fetched", 1)
	r.wantErr("Write of a page that isn't dirty", r.c.Write(undo(2)), api.OK)
	r.wantOps("not dirty", 0)
	p := r.change(undo(2), 8)
	r.wantErr("Unpin", r.c.Unpin(undo(2)), api.OK)
	r.wantStatus("put", undo(2), status{resident: true})
	r.wantErr("Write of a page that isn't held", r.c.Write(undo(2)), api.OK)
	r.wantOps("dirty", 4)
	r.wantOnDisk("dirty", undo(2), p)
	r.wantStatus("written", undo(2), status{resident: true, clean: true})
	r.wantErr("Write again", r.c.Write(undo(2)), api.OK)
	r.wantOps("dirty no more", 0)
	r.wantFetch(undo(2), p)
	p = r.change(undo(2), 9)
	r.wantDirty("put again", api.Dirt{Page: undo(2), LSN: page.LSN(p)})
	r.wantErr("Write of a page that is held", r.c.Write(undo(2)), api.OK)
	r.wantOps("dirty again", 4)
	r.wantOnDisk("dirty again", undo(2), p)
	r.wantStatus("written", undo(2), status{resident: true, clean: true, pins: 1})
}

func TestWriteTouchesNothing(t *testing.T) { // P13.5: a page that is written is neither seen nor held for that
	r := rigOf(t, 4, 8, 1)
	r.format()
	for i := range 4 {
		r.change(data(uint16(i)), 1)
	}
	r.pass(data(4)) // 0 goes; 1, 2 and 3 are seen no more
	r.wantErr("Write", r.c.Write(data(1)), api.OK)
	r.pass(data(5))
	r.wantResident("1 written", data(4), data(5), data(2), data(3))
}

// failures are plans of the disk by which its operation k fails.
func failures(k int) []struct {
	fails []int
	fuse  int
	want  api.Errno
} {
	return []struct {
		fails []int
		fuse  int
		want  api.Errno
	}{{[]int{k}, 0, api.ErrIO}, {nil, k, api.ErrDown}}
}

func TestWriteFails(t *testing.T) { // P13.5, at each place: the log's write and sync, the page's
	for k := 1; k <= 4; k++ {
		for _, plan := range failures(k) {
			r := rigOf(t, 4, 3, 3)
			r.format()
			p := r.change(undo(1), 8)
			r.d.Plan(plan.fails, plan.fuse)
			r.wantErr("Write", r.c.Write(undo(1)), plan.want)
			r.wantOps("a failure", k)
			r.wantStatus("a failure", undo(1), status{resident: true})
			r.wantDirty("a failure", api.Dirt{Page: undo(1), LSN: 1})
			if (r.l.Durable() > 1) != (k > 2) || r.d.Sure(6) != seal.Seal(0, page.Blank(undo(1))) {
				t.Errorf("behind a failure at %d the log lasts up to %d, or the page lasts", k, r.l.Durable())
			}
			if plan.fuse > 0 {
				r.wantErr("Write without power", r.c.Write(undo(1)), api.ErrDown)
				r.d.Crash(nil)
			}
			r.wantErr("Write again", r.c.Write(undo(1)), api.OK)
			r.wantOps("again, without the log where it lasts", []int{4, 4, 2, 2}[k-1])
			r.wantOnDisk("again", undo(1), p)
			r.wantStatus("again", undo(1), status{resident: true, clean: true})
			r.wantFetch(undo(1), p)
		}
	}
}

func TestFetchFails(t *testing.T) { // P13.3, at each place: the log's write and sync, the page's, and the read
	for k := 1; k <= 5; k++ {
		for _, plan := range failures(k) {
			r, p := exampleOf(t)
			r.d.Plan(plan.fails, plan.fuse)
			r.wantRefused(data(4), plan.want)
			r.wantOps("a failure", k)
			r.wantResident("a failure", data(0), data(1), data(2), data(3))
			r.wantStatus("a failure", data(0), status{resident: true, clean: k == 5})
			r.wantStatus("a failure", data(4), away())
			if k < 5 {
				r.wantDirty("a failure", api.Dirt{Page: data(0), LSN: 1})
			} else {
				r.wantDirty("a failure at the read")
				r.wantOnDisk("a failure at the read", data(0), p)
			}
			if plan.fuse > 0 {
				r.wantRefused(data(4), api.ErrDown)
				r.d.Crash(nil)
			}
			r.wantFetch(data(0), p) // so that it is held
			r.wantFetch(data(4), page.Blank(data(4)))
			r.wantStatus("again", data(4), status{resident: true, clean: true, pins: 1})
			r.wantStatus("again", data(0), status{resident: true, clean: k == 5, pins: 1})
			r.wantErr("Write", r.c.Write(data(0)), api.OK)
			r.wantOnDisk("again", data(0), p)
		}
	}
}

func TestFetchAgain(t *testing.T) { // P13.3: behind a failure the hand has gone on; a page that is cold is asked for again
	for k := 1; k <= 5; k++ {
		r, p := exampleOf(t)
		r.d.Plan([]int{k}, 0)
		r.wantRefused(data(4), api.ErrIO)
		r.d.Plan(nil, 0)
		r.wantFetch(data(4), page.Blank(data(4)))
		r.wantOps("the next one goes, which isn't dirty", 1)
		r.wantResident("the next one goes", data(0), data(4), data(2), data(3))
		r.wantFetch(data(0), p)

		r, p = exampleOf(t)
		r.c.Cold(data(0), true)
		r.d.Plan([]int{k}, 0)
		r.wantRefused(data(4), api.ErrIO)
		r.d.Plan(nil, 0)
		r.wantFetch(data(4), page.Blank(data(4)))
		r.wantOps("the cold one goes", []int{5, 5, 3, 3, 1}[k-1])
		r.wantResident("the cold one goes", data(4), data(1), data(2), data(3))
		r.wantOnDisk("the cold one goes", data(0), p)
	}
}

func TestPowerGoes(t *testing.T) { // P13.3, P13.7: whatever is kept, the page's block is the older one, the newer one, or torn
	for fuse := 1; fuse <= 5; fuse++ {
		for kept := range 16 {
			r, p := exampleOf(t)
			r.d.Plan(nil, fuse)
			r.wantRefused(data(4), api.ErrDown)
			keep := make([]bool, 4)
			for i := range keep {
				keep[i] = kept>>i&1 == 1
			}
			r.d.Crash(keep)
			want, torn := page.Blank(data(0)), false
			if fuse == 5 || fuse == 4 && kept == 15 {
				want = p
			} else if fuse == 4 && kept != 0 {
				torn = true
			}
			c := New(r.d, log.New(r.d, 8, logBlocks, 2, nil, 0, 1), 4, 5, 1)
			if x, e := c.Fetch(data(0)); e != api.OK || x != want || c.Torn(data(0)) != torn {
				t.Errorf("the power goes at %d, %v is kept: Fetch = %d, the payload wanted: %v, torn: %v", fuse, keep, e, x == want, c.Torn(data(0)))
			}
		}
	}
}

func TestTorn(t *testing.T) { // P13.3, P13.4
	for _, id := range []api.PageID{data(1), undo(1)} {
		other := undo(1)
		if id.Undo {
			other = data(1)
		}
		p := payloadOf(id, 7, 3)
		turned := p
		turned[40] ^= 1
		whole, elder := seal.Seal(7, p), seal.Seal(6, payloadOf(id, 6, 2))
		mixed := func(i int) api.Block { return seal.Lay(whole, i, seal.Cut(elder, i)) }
		for _, c := range []struct {
			name  string
			block api.Block
			torn  bool
		}{
			{"whole", whole, false},
			{"with a stamp that isn't its LSN", seal.Seal(900, p), false},
			{"with the stamp 0", seal.Seal(0, p), false},
			{"blank", seal.Seal(0, page.Blank(id)), false},
			{"noughts", api.Block{}, true},
			{"noughts, sealed", seal.Seal(5, api.Payload{}), true},
			{"of another number", seal.Seal(7, payloadOf(api.PageID{Undo: id.Undo, No: 2}, 7, 3)), true},
			{"of the other kind", seal.Seal(7, payloadOf(other, 7, 3)), true},
			{"with a bit turned", seal.Seal(7, turned), true},
			{"the sector 0 another one", mixed(0), true},
			{"the sector 1 another one", mixed(1), true},
			{"the sector 2 another one", mixed(2), true},
			{"the sector 3 another one", mixed(3), true},
			{"one sector of noughts", seal.Lay(whole, 2, api.Sector{}), true},
		} {
			r := rigOf(t, 4, 3, 3)
			r.format()
			r.lay(placeOf(r, id), c.block)
			r.d.Plan(nil, 0)
			want := page.Blank(id)
			if _, x, ok := seal.Open(c.block); ok && !c.torn {
				want = x
			}
			r.wantFetch(id, want)
			r.wantStatus(c.name, id, status{resident: true, clean: true, torn: c.torn, pins: 1})
			r.wantFetch(id, want)
			r.wantStatus(c.name+", fetched twice", id, status{resident: true, clean: true, torn: c.torn, pins: 2})
			r.wantErr("Write", r.c.Write(id), api.OK)
			r.wantOps(c.name, 1)
			r.wantErr("Put of what is none", r.c.Put(id, turned), api.ErrArg)
			r.wantStatus(c.name+", a Put refused", id, status{resident: true, clean: true, torn: c.torn, pins: 2})
			r.wantErr("Put", r.c.Put(id, p), api.OK)
			r.wantStatus(c.name+", put", id, status{resident: true, pins: 2})
			r.wantFetch(id, p)
			r.wantErr("Write", r.c.Write(id), api.OK)
			r.wantStatus(c.name+", written", id, status{resident: true, clean: true, pins: 3})
			r.wantOnDisk(c.name+", written", id, p)
		}
	}
}

func TestTornGoes(t *testing.T) { // P13.3, P13.6: a torn page that nothing is put to isn't written, and is torn again
	r := rigOf(t, 4, 8, 1)
	r.pass(data(0), data(1), data(2), data(3))
	r.wantStatus("torn", data(0), status{resident: true, clean: true, torn: true})
	r.pass(data(4))
	r.wantStatus("gone", data(0), away())
	r.wantOps("read alone", 5)
	r.wantFetch(data(0), page.Blank(data(0)))
	r.wantStatus("torn", data(0), status{resident: true, clean: true, torn: true, pins: 1})
	r.wantStatus("torn", data(4), status{resident: true, clean: true, torn: true})
}

func TestFrameIsNew(t *testing.T) { // P13.3: of the page that was in a frame nothing stays with the next one
	r := rigOf(t, 4, 8, 1)
	for i := 1; i < 8; i++ {
		r.lay(2+i, seal.Seal(0, page.Blank(data(uint16(i)))))
	}
	r.pass(data(0)) // torn
	r.c.Cold(data(0), true)
	r.pass(data(1), data(2))
	r.change(data(3), 1)
	r.c.Cold(data(3), true)
	r.pass(data(4)) // in the frame of 0
	r.wantStatus("a torn one went", data(4), status{resident: true, clean: true})
	r.pass(data(5)) // in that of 3
	r.wantStatus("a dirty one went", data(5), status{resident: true, clean: true})
	r.wantResident("the cold ones went", data(4), data(1), data(2), data(5))
	r.pass(data(6)) // neither 4 nor 5 is cold: from 0 on all are seen, and the first one goes
	r.wantResident("cold no more", data(6), data(1), data(2), data(5))
	r.wantDirty("cold no more")
	r.wantFetch(data(0), page.Blank(data(0)))
	if p := r.change(data(0), 5); r.c.Torn(data(0)) || page.LSN(p) == 1 {
		t.Error("put to, and torn")
	} else {
		r.wantDirty("put", api.Dirt{Page: data(0), LSN: page.LSN(p)})
	}
}

func TestUnpin(t *testing.T) { // P13.4
	r := rigOf(t, 4, 8, 2)
	r.format()
	r.wantErr("Unpin of a page that isn't resident", r.c.Unpin(data(0)), api.ErrArg)
	r.pass(data(0))
	r.wantErr("Unpin of a page that isn't held", r.c.Unpin(data(0)), api.ErrArg)
	r.wantErr("Unpin of the other kind", r.c.Unpin(undo(0)), api.ErrArg)
	r.wantFetch(data(0), page.Blank(data(0)))
	r.wantErr("Unpin of the other kind", r.c.Unpin(undo(0)), api.ErrArg)
	r.wantErr("Unpin of another number", r.c.Unpin(data(1)), api.ErrArg)
	r.wantStatus("held", data(0), status{resident: true, clean: true, pins: 1})
	r.wantErr("Unpin", r.c.Unpin(data(0)), api.OK)
	r.pass(data(1), data(2), data(3), data(4))
	r.wantErr("Unpin of a page that is gone", r.c.Unpin(data(0)), api.ErrArg)
	r.wantStatus("gone", data(0), away())
	r.wantStatus("in its frame", data(4), status{resident: true, clean: true})
}

func TestPut(t *testing.T) { // P13.4
	r := rigOf(t, 4, 8, 2)
	r.format()
	id := data(1)
	p := payloadOf(id, 5, 1)
	r.wantErr("Put of a page that isn't resident", r.c.Put(id, p), api.ErrArg)
	r.pass(id)
	r.wantErr("Put of a page that isn't held", r.c.Put(id, p), api.ErrArg)
	r.wantStatus("refused", id, status{resident: true, clean: true})
	r.wantFetch(id, page.Blank(id))
	for name, x := range map[string]api.Payload{
		"another number": payloadOf(data(2), 5, 1),
		"the other kind": payloadOf(undo(1), 5, 1),
		"noughts":        {},
		"a bit turned":   func() api.Payload { x := p; x[223] ^= 128; return x }(),
	} {
		r.wantErr("Put of "+name, r.c.Put(id, x), api.ErrArg)
		r.wantStatus("refused", id, status{resident: true, clean: true, pins: 1})
	}
	r.wantErr("Put of another page", r.c.Put(data(2), payloadOf(data(2), 5, 1)), api.ErrArg)
	r.wantFetch(id, page.Blank(id))
	r.d.Plan(nil, 0)
	r.wantErr("Put", r.c.Put(id, p), api.OK)
	r.wantOps("Put", 0)
	r.wantStatus("put", id, status{resident: true, pins: 2})
	r.wantFetch(id, p)
	r.wantErr("Put of another page", r.c.Put(id, payloadOf(data(2), 6, 1)), api.ErrArg)
	r.wantFetch(id, p)
	r.wantDirty("put", api.Dirt{Page: id, LSN: 5})
	r.pass(data(2), data(3), data(4))
	for range 4 {
		r.wantErr("Unpin", r.c.Unpin(id), api.OK)
	}
	r.wantErr("Put of a page that isn't held any more", r.c.Put(id, payloadOf(id, 9, 9)), api.ErrArg)
	r.wantFetch(id, p)
}

func TestPutTheSame(t *testing.T) { // P13.4: a page that is put to is dirty, even with what it has
	r := rigOf(t, 4, 2, 2)
	r.format()
	r.wantFetch(undo(0), page.Blank(undo(0)))
	r.wantErr("Put", r.c.Put(undo(0), page.Blank(undo(0))), api.OK)
	r.wantStatus("put", undo(0), status{resident: true, pins: 1})
	r.wantDirty("put", api.Dirt{Page: undo(0), LSN: 0})
	r.d.Plan(nil, 0)
	r.wantErr("Write", r.c.Write(undo(0)), api.OK)
	r.wantOps("Write", 2)
	r.wantDirty("written")
}

func TestFirstChange(t *testing.T) { // P13.4, P13.6
	r := rigOf(t, 4, 4, 4)
	r.format()
	id := undo(3)
	r.wantFetch(id, page.Blank(id))
	for _, lsn := range []uint64{50, 60, 70, 20, 0, math.MaxUint64} {
		r.wantErr("Put", r.c.Put(id, payloadOf(id, lsn, 1)), api.OK)
		r.wantDirty("put again", api.Dirt{Page: id, LSN: 50})
	}
	r.wantErr("Put refused", r.c.Put(id, payloadOf(data(3), 80, 1)), api.ErrArg)
	r.d.Plan([]int{1}, 0)
	r.wantErr("Write that fails", r.c.Write(id), api.ErrIO)
	r.wantDirty("a Write that failed", api.Dirt{Page: id, LSN: 50})
	r.wantErr("Write", r.c.Write(id), api.OK)
	r.wantDirty("written")
	for _, lsn := range []uint64{30, 90} {
		r.wantErr("Put", r.c.Put(id, payloadOf(id, lsn, 2)), api.OK)
		r.wantDirty("put behind a Write", api.Dirt{Page: id, LSN: 30})
	}
	r.wantErr("Unpin", r.c.Unpin(id), api.OK)
	r.pass(data(0), data(1), data(2), data(3))
	r.wantDirty("gone")
	r.wantFetch(id, payloadOf(id, 90, 2))
	r.wantErr("Put", r.c.Put(id, payloadOf(id, 95, 3)), api.OK)
	r.wantDirty("put when it was read again", api.Dirt{Page: id, LSN: 95})
}

func TestCold(t *testing.T) { // P13.5
	r := rigOf(t, 4, 10, 1)
	r.format()
	r.c.Cold(data(0), true) // not resident: nothing is said of it
	r.c.Cold(data(3), true)
	r.pass(data(0), data(1), data(2), data(3))
	r.pass(data(4))
	r.wantResident("cold when they weren't resident", data(4), data(1), data(2), data(3))
	r.c.Cold(data(3), true)
	r.d.Plan(nil, 0)
	r.wantStatus("cold", data(3), status{resident: true, clean: true})
	r.pass(data(5))
	r.wantResident("3 cold", data(4), data(1), data(2), data(5))
	r.c.Cold(data(3), true) // gone: nothing is said of the one in its frame
	r.pass(data(6))         // the hand is at 0: 4 is seen, 1 isn't
	r.wantResident("3 gone", data(4), data(6), data(2), data(5))
	r.c.Cold(data(2), true)
	r.c.Cold(data(2), false)
	r.c.Cold(data(5), true)
	r.pass(data(2))
	r.pass(data(7))
	r.wantResident("5 cold", data(4), data(6), data(2), data(7))
	r.c.Cold(data(4), true)
	r.c.Cold(data(6), true)
	r.wantFetch(data(4), page.Blank(data(4)))
	r.pass(data(8))
	r.wantResident("4 cold and held, 6 cold", data(4), data(8), data(2), data(7))
	r.wantErr("Unpin", r.c.Unpin(data(4)), api.OK)
	r.pass(data(9))
	r.wantResident("4 cold", data(9), data(8), data(2), data(7))
}

func TestColdChangesNothingElse(t *testing.T) { // P13.5
	r := rigOf(t, 4, 4, 1)
	r.format()
	p := r.change(data(1), 6)
	r.d.Plan(nil, 0)
	for _, is := range []bool{true, false} {
		r.c.Cold(data(1), is)
		r.wantStatus("cold", data(1), status{resident: true})
		r.wantDirty("cold", api.Dirt{Page: data(1), LSN: 1})
	}
	r.wantOps("cold", 0)
	r.wantFetch(data(1), p)
}

func TestDirty(t *testing.T) { // P13.6
	r := rigOf(t, 32, 16, 32)
	r.format()
	r.wantDirty("none")
	list := []api.PageID{undo(0), data(15), undo(31), data(0), undo(7), data(3), undo(3), data(9), data(10), undo(10), undo(9)}
	var want []api.Dirt
	for i, id := range list {
		p := r.change(id, uint32(i))
		want = append(want, api.Dirt{Page: id, LSN: page.LSN(p)})
		r.pass(data(1), undo(1)) // these aren't dirty
		slices.SortFunc(want, func(a, b api.Dirt) int { return placeOf(r, a.Page) - placeOf(r, b.Page) })
		r.wantDirty("one more", want...)
	}
	got := r.c.Dirty()
	clear(got)
	r.wantDirty("the answer cleared", want...)
	for _, id := range list {
		r.change(id, 99)
	}
	r.wantDirty("each put to again", want...)
	for len(want) > 0 {
		k := len(want) / 2
		r.wantErr("Write", r.c.Write(want[k].Page), api.OK)
		want = slices.Delete(want, k, k+1)
		r.wantDirty("one less", want...)
	}
}

func TestHandedIn(t *testing.T) { // rule 4: payloads go as values
	r := rigOf(t, 4, 2, 2)
	r.format()
	p := r.change(data(1), 6)
	x, _ := r.c.Fetch(data(1))
	x[30]++
	r.wantFetch(data(1), p)
	y := payloadOf(data(1), 9, 9)
	r.wantErr("Put", r.c.Put(data(1), y), api.OK)
	z := y
	y[30]++
	r.wantFetch(data(1), z)
}

func TestTwoCaches(t *testing.T) { // rule 6: caches know nothing of each other but what the disk and the log hold
	r := rigOf(t, 4, 4, 1)
	r.format()
	other := New(r.d, r.l, 4, 4, 1)
	p := r.change(data(2), 6)
	if other.Resident(data(2)) || !other.Clean(data(2)) || len(other.Dirty()) != 0 {
		t.Error("the other cache has the page")
	}
	if x, e := other.Fetch(data(2)); e != api.OK || x != page.Blank(data(2)) {
		t.Error("the other cache reads what isn't on the disk")
	}
	r.wantErr("Write", r.c.Write(data(2)), api.OK)
	third := New(r.d, r.l, 4, 4, 1)
	if x, e := third.Fetch(data(2)); e != api.OK || x != p {
		t.Error("a new cache doesn't read what is on the disk")
	}
}
