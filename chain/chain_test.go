package chain

import (
	"math"
	"math/rand"
	"slices"
	"strconv"
	"testing"

	"varve/api"
	"varve/cache"
	"varve/delta"
	"varve/disk"
	"varve/log"
	"varve/page"
	"varve/seal"
)

// logBlocks is how many blocks the logs have, of which nothing is needed here but that they are there.
const logBlocks = 24

func data(no uint16) api.PageID { return api.PageID{No: no} }
func undo(no uint16) api.PageID { return api.PageID{Undo: true, No: no} }

// rig is a cache over a disk.
type rig struct {
	t           *testing.T
	d           *disk.Disk
	c           *cache.Cache
	pages, undo int
}

func rigOf(t *testing.T, frames, pages, undo int) *rig {
	t.Helper()
	at := 2 + pages + undo
	d := disk.New(at + logBlocks)
	c := cache.New(d, log.New(d, at, logBlocks, 1, nil, 0, 1), frames, pages, undo)
	if c == nil {
		t.Fatalf("no cache of %d frames, %d and %d pages", frames, pages, undo)
	}
	return &rig{t: t, d: d, c: c, pages: pages, undo: undo}
}

// all are the cache's pages, in the order of their blocks.
func (r *rig) all() []api.PageID {
	var list []api.PageID
	for i := range r.pages {
		list = append(list, data(uint16(i)))
	}
	for i := range r.undo {
		list = append(list, undo(uint16(i)))
	}
	return list
}

func (r *rig) put(id api.PageID, p api.Payload) {
	r.t.Helper()
	if _, e := r.c.Fetch(id); e != api.OK {
		r.t.Fatalf("Fetch(%v) = %d", id, e)
	}
	if r.c.Put(id, p) != api.OK || r.c.Unpin(id) != api.OK {
		r.t.Fatalf("%v can't be put", id)
	}
}

func (r *rig) putData(no uint16, d api.Data) {
	r.t.Helper()
	r.put(data(no), page.PutData(no, d))
}

func (r *rig) putUndo(no uint16, u api.Undo) {
	r.t.Helper()
	p, e := page.PutUndo(no, u)
	if e != api.OK {
		r.t.Fatalf("there may be no undo page %v", u)
	}
	r.put(undo(no), p)
}

// sweep makes none of some pages resident: they are written, and others take their frames.
func (r *rig) sweep(frames int, keep ...api.PageID) {
	r.t.Helper()
	for _, id := range r.all() {
		if r.c.Resident(id) && r.c.Write(id) != api.OK {
			r.t.Fatalf("%v can't be written", id)
		}
	}
	for range 3 {
		for _, id := range keep {
			if _, e := r.c.Fetch(id); e != api.OK || r.c.Unpin(id) != api.OK {
				r.t.Fatalf("Fetch(%v) = %d", id, e)
			}
		}
	}
	if len(keep) < frames {
		r.t.Fatalf("%d pages for %d frames", len(keep), frames)
	}
	r.d.Plan(nil, 0)
}

// wantHeld holds how often pages are held against these, once each.
func (r *rig) wantHeld(name string, want ...api.PageID) {
	r.t.Helper()
	for _, id := range r.all() {
		n := 0
		if slices.Contains(want, id) {
			n = 1
		}
		if got := r.c.Pins(id); got != n {
			r.t.Errorf("%s: %v is held %d times, want %d", name, id, got, n)
		}
	}
}

// wantVersions holds all that is told of a page against its versions and where the older ones are told.
func (r *rig) wantVersions(name string, no uint16, want []api.Version, refs []api.Ref) {
	r.t.Helper()
	if got, e := Versions(r.c, no); e != api.OK || !slices.Equal(got, want) {
		r.t.Errorf("%s: Versions(%d) = %v, %d, want %v", name, no, got, e, want)
	}
	got, e := Refs(r.c, no)
	if e != api.OK || !slices.Equal(got, refs) || len(got) != len(want)-1 {
		r.t.Errorf("%s: Refs(%d) = %v, %d, want %v", name, no, got, e, refs)
	}
	r.wantHeld(name)
}

func (r *rig) wantAt(name string, no uint16, ts uint32, want api.Version, err api.Errno) {
	r.t.Helper()
	if got, e := At(r.c, no, ts); e != err || got != want {
		r.t.Errorf("%s: At(%d, %d) = %v, %d, want %v, %d", name, no, ts, got, e, want, err)
	}
}

func (r *rig) wantStep(name string, no uint16, v, want api.Data, err api.Errno) {
	r.t.Helper()
	if got, e := Step(r.c, no, v); e != err || got != want {
		r.t.Errorf("%s: Step(%d, %v) = %v, %d, want %v, %d", name, no, v, got, e, want, err)
	}
	r.wantHeld(name)
}

// wantBroken holds what the calls that go over all of a page's versions answer against an error.
func (r *rig) wantBroken(name string, no uint16, err api.Errno) {
	r.t.Helper()
	if got, e := Versions(r.c, no); e != err || len(got) != 0 {
		r.t.Errorf("%s: Versions(%d) = %v, %d, want %d", name, no, got, e, err)
	}
	if got, e := Refs(r.c, no); e != err || len(got) != 0 {
		r.t.Errorf("%s: Refs(%d) = %v, %d, want %d", name, no, got, e, err)
	}
}

// bodyOf is a body that is like no other one of another number below 256, at three places.
func bodyOf(n int) api.Body {
	var b api.Body
	b[n%60] = byte(n)
	b[(n+30)%60] += byte(n / 3)
	b[63] = byte(255 - n)
	return b
}

// versionsOf are n versions, the newest first, whose timestamps are 10 apart, the oldest one's 10.
func versionsOf(n int) []api.Version {
	var list []api.Version
	for i := range n {
		list = append(list, api.Version{Ts: uint32(10 * (n - i)), Body: bodyOf(n - i)})
	}
	return list
}

// placesOf are places for n records in so many undo pages, one behind the other in each page in turn; the first slot stays free.
func placesOf(n, pages int) []api.Ref {
	var list []api.Ref
	for i := range n {
		list = append(list, api.Ref{Page: uint16(i%pages) + 1, Slot: uint8(i/pages) + 1})
	}
	return list
}

// recordsOf are undo pages with a page's versions, told at these places; the pages' LSNs are their numbers and 100.
func recordsOf(no uint16, list []api.Version, places []api.Ref) map[uint16]api.Undo {
	pages := make(map[uint16]api.Undo)
	for i, at := range places {
		o := api.Old{Live: true, Page: no, Ts: list[i+1].Ts, Delta: delta.Make(list[i].Body, list[i+1].Body)}
		if i+1 < len(places) {
			o.Next = places[i+1]
		}
		u := pages[at.Page-1]
		u.LSN = uint64(at.Page) + 99
		for len(u.Olds) <= int(at.Slot) {
			u.Olds = append(u.Olds, api.Old{})
		}
		u.Olds[at.Slot] = o
		pages[at.Page-1] = u
	}
	return pages
}

// newestOf is a data page with the first one of some versions.
func newestOf(list []api.Version, places []api.Ref) api.Data {
	d := api.Data{LSN: 77, Ts: list[0].Ts, Body: list[0].Body}
	if len(places) > 0 {
		d.Prev = places[0]
	}
	return d
}

// lay puts a page's versions, and answers them.
func (r *rig) lay(no uint16, n, pages int) ([]api.Version, []api.Ref) {
	r.t.Helper()
	list, places := versionsOf(n), placesOf(n-1, pages)
	for at, u := range recordsOf(no, list, places) {
		r.putUndo(at, u)
	}
	r.putData(no, newestOf(list, places))
	return list, places
}

func TestExample(t *testing.T) { // P17.2, P17.3, P17.4
	r := rigOf(t, 4, 4, 4)
	newest := api.Data{Ts: 3, Prev: api.Ref{Page: 4}, Body: api.Body{7, 8, 9}}
	old := api.Old{Live: true, Page: 1, Delta: "\x00\x03\x00\x00\x00"}
	r.putData(1, newest)
	r.putUndo(3, api.Undo{Olds: []api.Old{old}})
	r.wantVersions("the example", 1, []api.Version{{Ts: 3, Body: newest.Body}, {}}, []api.Ref{{Page: 4}})
	r.wantAt("the example", 1, 2, api.Version{}, api.OK)
	r.wantStep("the example", 1, newest, api.Data{}, api.OK)
	old.Ts = 3
	r.putUndo(3, api.Undo{Olds: []api.Old{old}})
	r.wantBroken("its Ts is 3", 1, api.ErrForm)
	r.wantAt("its Ts is 3", 1, 2, api.Version{}, api.ErrForm)
	r.wantStep("its Ts is 3", 1, newest, api.Data{}, api.ErrForm)
}

func TestNewest(t *testing.T) { // P17.1
	r := rigOf(t, 4, 16, 2)
	for no := range uint16(16) {
		want := api.Data{LSN: uint64(no) << 40, Ts: 1 << 31 >> no, Prev: api.Ref{Page: no, Slot: uint8(15 - no)}, Body: bodyOf(int(no))}
		if d, e := Newest(r.c, no); d != (api.Data{}) || e != api.OK { // its block tells nothing of it
			t.Errorf("Newest(%d) = %v, %d", no, d, e)
		}
		r.putData(no, want)
		for range 2 {
			if d, e := Newest(r.c, no); d != want || e != api.OK {
				t.Errorf("Newest(%d) = %v, %d, want %v", no, d, e, want)
			}
		}
		r.wantHeld("Newest")
	}
	greatest := api.Data{LSN: math.MaxUint64, Ts: math.MaxUint32, Prev: api.Ref{Page: math.MaxUint16, Slot: math.MaxUint8}}
	r.putData(15, greatest)
	if d, e := Newest(r.c, 15); d != greatest || e != api.OK {
		t.Errorf("Newest(15) = %v, %d", d, e)
	}
	for _, no := range []uint16{0, 1} { // the undo pages of these numbers are others
		if r.c.Resident(undo(no)) {
			t.Errorf("the undo page %d was fetched", no)
		}
	}
}

func TestNil(t *testing.T) { // P17.1, P17.2, P17.3, P17.4
	for _, no := range []uint16{0, 1, 15, 31, math.MaxUint16} {
		r := &rig{t: t}
		if d, e := Newest(nil, no); d != (api.Data{}) || e != api.ErrArg {
			t.Errorf("Newest(%d) of a nil cache = %v, %d", no, d, e)
		}
		r.wantBroken("a nil cache", no, api.ErrArg)
		for _, ts := range []uint32{0, 1, math.MaxUint32} {
			r.wantAt("a nil cache", no, ts, api.Version{}, api.ErrArg)
			r.wantStep("a nil cache", no, api.Data{Ts: ts, Body: bodyOf(1)}, api.Data{}, api.ErrArg)
			r.wantStep("a nil cache", no, api.Data{Ts: ts, Prev: api.Ref{Slot: 1}}, api.Data{}, api.ErrArg)
			r.wantStep("a nil cache", no, api.Data{Ts: ts, Prev: api.Ref{Page: 1}}, api.Data{}, api.ErrForm)
			r.wantStep("a nil cache", no, api.Data{Ts: ts, Prev: api.Ref{Page: math.MaxUint16, Slot: math.MaxUint8}}, api.Data{}, api.ErrForm)
		}
	}
}

func TestNoSuchPage(t *testing.T) { // P17.1, P17.3, P17.4
	for _, n := range [][2]int{{1, 1}, {2, 9}, {16, 32}} {
		r := rigOf(t, 4, n[0], n[1])
		r.lay(0, 2, 1)
		r.d.Plan(nil, 0)
		for _, no := range []uint16{uint16(n[0]), uint16(n[0] + 1), uint16(n[0] + n[1]), 256, 1 << 15, math.MaxUint16} {
			if d, e := Newest(r.c, no); d != (api.Data{}) || e != api.ErrArg {
				t.Errorf("Newest(%d) = %v, %d", no, d, e)
			}
			r.wantBroken("no such page", no, api.ErrArg)
			r.wantAt("no such page", no, 5, api.Version{}, api.ErrArg)
			r.wantAt("no such page", no, math.MaxUint32, api.Version{}, api.ErrArg)
			r.wantHeld("no such page")
		}
		if r.d.Ops() != 0 {
			t.Error("the disk was asked for a page that there isn't")
		}
	}
}

func TestOneVersion(t *testing.T) { // P17.2, P17.3, P17.4
	r := rigOf(t, 4, 3, 3)
	r.wantVersions("nothing has happened", 1, []api.Version{{}}, nil)
	r.wantAt("nothing has happened", 1, 0, api.Version{}, api.OK)
	r.wantAt("nothing has happened", 1, math.MaxUint32, api.Version{}, api.OK)
	for _, prev := range []api.Ref{{}, {Slot: 1}, {Slot: math.MaxUint8}} { // a slot of no page
		d := api.Data{LSN: 4, Ts: 9, Prev: prev, Body: bodyOf(5)}
		v := api.Version{Ts: 9, Body: bodyOf(5)}
		r.putData(1, d)
		r.wantVersions("one", 1, []api.Version{v}, nil)
		r.wantAt("one", 1, 9, v, api.OK)
		r.wantAt("one", 1, 10, v, api.OK)
		r.wantAt("one", 1, math.MaxUint32, v, api.OK)
		r.wantAt("one", 1, 8, api.Version{}, api.ErrForm)
		r.wantAt("one", 1, 0, api.Version{}, api.ErrForm)
		r.wantStep("one", 1, d, api.Data{}, api.ErrArg)
	}
	for no := range uint16(3) {
		if r.c.Resident(undo(no)) {
			t.Error("an undo page was fetched")
		}
	}
}

func TestManyVersions(t *testing.T) { // P17.2, P17.3, P17.4
	for _, frames := range []int{4, 5, 32} {
		for _, c := range [][2]int{{2, 1}, {3, 1}, {3, 2}, {10, 1}, {10, 3}, {40, 6}, {60, 9}} {
			r := rigOf(t, frames, 5, 9)
			list, places := r.lay(3, c[0], c[1])
			name := strconv.Itoa(c[0]) + " in " + strconv.Itoa(c[1]) + " with " + strconv.Itoa(frames) + " frames"
			for range 2 {
				r.wantVersions(name, 3, list, places)
			}
			for ts := range uint32(10*c[0] + 15) {
				if ts < 10 {
					r.wantAt(name, 3, ts, api.Version{}, api.ErrForm)
				} else {
					r.wantAt(name, 3, ts, list[c[0]-min(int(ts/10), c[0])], api.OK)
				}
			}
			r.wantAt(name, 3, math.MaxUint32, list[0], api.OK)
			r.wantSteps(name, 3, list, places)
			r.wantVersions(name+", another page", 2, []api.Version{{}}, nil)
		}
	}
}

// wantSteps goes from each of a page's versions to the one ahead of it.
func (r *rig) wantSteps(name string, no uint16, list []api.Version, places []api.Ref) {
	r.t.Helper()
	v, e := Newest(r.c, no)
	if e != api.OK || v != newestOf(list, places) {
		r.t.Fatalf("%s: Newest = %v, %d", name, v, e)
	}
	for i := range places {
		want := api.Data{Ts: list[i+1].Ts, Body: list[i+1].Body}
		if i+1 < len(places) {
			want.Prev = places[i+1]
		}
		r.wantStep(name, no, v, want, api.OK)
		v = want
	}
	r.wantStep(name, no, v, api.Data{}, api.ErrArg)
}

func TestChainsSideBySide(t *testing.T) { // P17.2, P17.4: two pages' records in one undo page
	r := rigOf(t, 4, 4, 1)
	a := api.Version{Ts: 5, Body: bodyOf(1)}
	b := api.Version{Ts: 6, Body: bodyOf(2)}
	r.putUndo(0, api.Undo{Olds: []api.Old{
		{Live: true, Page: 2, Ts: 4, Delta: delta.Make(a.Body, b.Body)},
		{Live: true, Page: 3, Ts: 1, Next: api.Ref{Page: 1, Slot: 2}, Delta: delta.Make(b.Body, a.Body)},
		{Live: true, Page: 3, Ts: 0},
	}})
	r.putData(2, api.Data{Ts: 5, Prev: api.Ref{Page: 1}, Body: a.Body})
	r.putData(3, api.Data{Ts: 6, Prev: api.Ref{Page: 1, Slot: 1}, Body: b.Body})
	r.wantVersions("the page 2", 2, []api.Version{a, {Ts: 4, Body: b.Body}}, []api.Ref{{Page: 1}})
	r.wantVersions("the page 3", 3, []api.Version{b, {Ts: 1, Body: a.Body}, {Body: a.Body}}, []api.Ref{{Page: 1, Slot: 1}, {Page: 1, Slot: 2}})
	r.putData(2, api.Data{Ts: 5, Prev: api.Ref{Page: 1, Slot: 1}, Body: a.Body})
	r.wantBroken("the other one's record", 2, api.ErrForm)
}

func TestStep(t *testing.T) { // P17.2: any version may be handed in, and of it just Ts, Prev and Body are asked for
	r := rigOf(t, 4, 2, 3)
	next := api.Ref{Page: 900, Slot: 200}
	u := api.Undo{LSN: 55, Olds: make([]api.Old, 6)}
	u.Olds[5] = api.Old{Live: true, Page: 1, Ts: 8, Next: next, Delta: "\x02\x02ab\x3f\x01c"}
	r.putUndo(2, u)
	body := bodyOf(9)
	want := api.Data{Ts: 8, Prev: next, Body: body}
	want.Body[2], want.Body[3], want.Body[63] = 'a', 'b', 'c'
	for _, ts := range []uint32{9, 10, 1 << 31, math.MaxUint32} {
		for _, lsn := range []uint64{0, 1, 55, math.MaxUint64} {
			r.wantStep("a version", 1, api.Data{LSN: lsn, Ts: ts, Prev: api.Ref{Page: 3, Slot: 5}, Body: body}, want, api.OK)
		}
	}
	if r.c.Resident(data(0)) || r.c.Resident(data(1)) {
		t.Error("a data page was fetched")
	}
	// The page is asked for nothing but its number: there needs to be none.
	u.Olds[5].Page = math.MaxUint16
	r.putUndo(2, u)
	r.wantStep("the greatest page", math.MaxUint16, api.Data{Ts: 9, Prev: api.Ref{Page: 3, Slot: 5}, Body: body}, want, api.OK)
	u.Olds[5] = api.Old{Live: true, Page: 1}
	r.putUndo(2, u)
	r.wantStep("no delta, no next", 1, api.Data{Ts: 1, Prev: api.Ref{Page: 3, Slot: 5}, Body: body}, api.Data{Body: body}, api.OK)
}

func TestStepWrong(t *testing.T) { // P17.2
	right := api.Old{Live: true, Page: 1, Ts: 8, Next: api.Ref{Page: 1}, Delta: "\x02\x01a"}
	v := api.Data{LSN: 3, Ts: 9, Prev: api.Ref{Page: 2, Slot: 2}, Body: bodyOf(4)}
	for _, c := range []struct {
		name string
		turn func(v *api.Data, o *api.Old)
		want api.Errno
	}{
		{"nothing wrong", func(*api.Data, *api.Old) {}, api.OK},
		{"none ahead", func(v *api.Data, o *api.Old) { v.Prev = api.Ref{} }, api.ErrArg},
		{"none ahead, with a slot", func(v *api.Data, o *api.Old) { v.Prev.Page = 0 }, api.ErrArg},
		{"the next undo page's number", func(v *api.Data, o *api.Old) { v.Prev.Page = 3 }, api.ErrForm},
		{"no such undo page", func(v *api.Data, o *api.Old) { v.Prev.Page = 4 }, api.ErrForm},
		{"the greatest undo page", func(v *api.Data, o *api.Old) { v.Prev.Page = math.MaxUint16 }, api.ErrForm},
		{"another undo page", func(v *api.Data, o *api.Old) { v.Prev.Page = 1 }, api.ErrForm},
		{"a slot that isn't live", func(v *api.Data, o *api.Old) { v.Prev.Slot = 1 }, api.ErrForm},
		{"the slot of another page's record", func(v *api.Data, o *api.Old) { v.Prev.Slot = 0 }, api.ErrForm},
		{"a slot behind all", func(v *api.Data, o *api.Old) { v.Prev.Slot = 4 }, api.ErrForm},
		{"the greatest slot", func(v *api.Data, o *api.Old) { v.Prev.Slot = math.MaxUint8 }, api.ErrForm},
		{"not live", func(v *api.Data, o *api.Old) { *o = api.Old{} }, api.ErrForm},
		{"of another page", func(v *api.Data, o *api.Old) { o.Page = 0 }, api.ErrForm},
		{"of the greatest page", func(v *api.Data, o *api.Old) { o.Page = math.MaxUint16 }, api.ErrForm},
		{"the same Ts", func(v *api.Data, o *api.Old) { o.Ts = 9 }, api.ErrForm},
		{"a greater Ts", func(v *api.Data, o *api.Old) { o.Ts = 10 }, api.ErrForm},
		{"the greatest Ts", func(v *api.Data, o *api.Old) { o.Ts = math.MaxUint32 }, api.ErrForm},
		{"both the greatest Ts", func(v *api.Data, o *api.Old) { v.Ts, o.Ts = math.MaxUint32, math.MaxUint32 }, api.ErrForm},
		{"both no Ts", func(v *api.Data, o *api.Old) { v.Ts, o.Ts = 0, 0 }, api.ErrForm},
		{"a piece of no byte", func(v *api.Data, o *api.Old) { o.Delta = "\x02\x00" }, api.ErrForm},
		{"half a piece", func(v *api.Data, o *api.Old) { o.Delta = "\x02" }, api.ErrForm},
		{"a piece beyond the body", func(v *api.Data, o *api.Old) { o.Delta = "\x3f\x02ab" }, api.ErrForm},
		{"a wrong piece behind a right one", func(v *api.Data, o *api.Old) { o.Delta = "\x02\x01a\x03\x01b" }, api.ErrForm},
	} {
		r := rigOf(t, 4, 2, 3)
		w, o := v, right
		c.turn(&w, &o)
		r.putUndo(1, api.Undo{Olds: []api.Old{{Live: true, Page: 0, Ts: 1}, {}, o, {Live: true, Page: 0, Ts: 1}}})
		var want api.Data
		if c.want == api.OK {
			want = api.Data{Ts: 8, Prev: right.Next, Body: bodyOf(4)}
			want.Body[2] = 'a'
		}
		r.wantStep(c.name, 1, w, want, c.want)
		r.putData(1, w)
		if c.want == api.ErrForm {
			r.wantBroken(c.name, 1, api.ErrForm)
			r.wantAt(c.name, 1, w.Ts, api.Version{Ts: w.Ts, Body: w.Body}, api.OK)
			if w.Ts > 0 {
				r.wantAt(c.name, 1, w.Ts-1, api.Version{}, api.ErrForm)
			}
		}
		r.wantHeld(c.name)
	}
}

func TestAtFetchesNoMore(t *testing.T) { // P17.3
	const n = 7
	for i := range n {
		r := rigOf(t, 4, 8, n)
		list, _ := r.lay(0, n, n-1) // each record in an undo page of its own
		r.sweep(4, data(4), data(5), data(6), data(7))
		r.wantAt("far back", 0, list[i].Ts, list[i], api.OK)
		if r.d.Ops() != i+1 {
			t.Errorf("version %d: %d operations", i, r.d.Ops())
		}
		for at := range uint16(n - 1) {
			if r.c.Resident(undo(at)) && int(at) >= i {
				t.Errorf("version %d: the undo page %d was fetched", i, at)
			}
		}
		r.wantHeld("far back")
	}
	r := rigOf(t, 4, 8, n)
	list, _ := r.lay(0, n, n-1)
	r.putUndo(3, api.Undo{}) // the record that makes the version 4 is gone
	for i, v := range list {
		want, err := v, api.OK
		if i > 3 {
			want, err = api.Version{}, api.ErrForm
		}
		r.wantAt("broken", 0, v.Ts, want, err)
		r.wantAt("broken", 0, v.Ts+9, want, err)
	}
	r.wantBroken("broken", 0, api.ErrForm)
}

func TestBroken(t *testing.T) { // P17.3, P17.4, P17.5: at each of the records
	const n, pages = 12, 3
	list, places := versionsOf(n), placesOf(n-1, pages)
	faults := []func(o *api.Old){
		func(o *api.Old) { *o = api.Old{} },
		func(o *api.Old) { o.Page++ },
		func(o *api.Old) { o.Ts += 10 },
		func(o *api.Old) { o.Delta += "x" },
	}
	for i, at := range places {
		for k, fault := range faults {
			r := rigOf(t, 4, 4, 4)
			records := recordsOf(2, list, places)
			u := records[at.Page-1]
			fault(&u.Olds[at.Slot])
			for len(u.Olds) > 0 && !u.Olds[len(u.Olds)-1].Live {
				u.Olds = u.Olds[:len(u.Olds)-1]
			}
			records[at.Page-1] = u
			for no, u := range records {
				r.putUndo(no, u)
			}
			r.putData(2, newestOf(list, places))
			name := "fault " + strconv.Itoa(k) + " at " + strconv.Itoa(i)
			r.wantBroken(name, 2, api.ErrForm)
			for j, v := range list {
				if j <= i {
					r.wantAt(name, 2, v.Ts, v, api.OK)
				} else {
					r.wantAt(name, 2, v.Ts, api.Version{}, api.ErrForm)
				}
			}
			r.wantHeld(name)
		}
	}
}

func TestFaults(t *testing.T) { // P17.1, P17.2, P17.3, P17.4, P17.5
	const n = 6
	// Either the pages that give up their frames are dirty, so that a fetch has several operations, or they aren't.
	for _, dirty := range []bool{false, true} {
		ask := func(fails []int, fuse int) (*rig, []api.Version, []api.Ref) {
			r := rigOf(t, 4, 8, n)
			list, places := r.lay(0, n, n-1)
			r.sweep(4, data(4), data(5), data(6), data(7))
			for no := uint16(4); dirty && no < 8; no++ {
				r.putData(no, api.Data{Ts: 1})
			}
			r.d.Plan(fails, fuse)
			return r, list, places
		}
		r, list, places := ask(nil, 0)
		r.wantVersions("no faults", 0, list, places)
		r, _, _ = ask(nil, 0)
		Versions(r.c, 0)
		ops := r.d.Ops()
		if dirty && ops < n+4 || !dirty && ops != n {
			t.Fatalf("%d operations", ops)
		}
		for op := 1; op <= ops; op++ {
			for _, err := range []api.Errno{api.ErrIO, api.ErrDown} {
				fails, fuse := []int{op}, 0
				if err == api.ErrDown {
					fails, fuse = nil, op
				}
				name := "the operation " + strconv.Itoa(op)
				for _, call := range callsOf(list, places) {
					r, _, _ := ask(fails, fuse)
					if e, ok := call(r.c); e != err || !ok {
						t.Errorf("%s: %d, and nothing else: %v", name, e, ok)
					}
					r.wantHeld(name)
					r.d.Plan(nil, 0)
					r.d.Crash(nil)
					if e, ok := call(r.c); e != api.OK || !ok {
						t.Errorf("%s, asked again: %d, as it should be: %v", name, e, ok)
					}
					r.wantVersions(name, 0, list, places)
				}
			}
		}
		for op := 1; op <= 3; op++ { // of a fetch alone
			r, list, _ := ask([]int{op}, 0)
			d, e := Newest(r.c, 0)
			if fails := op == 1 || dirty; fails != (e == api.ErrIO) || fails && d != (api.Data{}) || !fails && d.Ts != list[0].Ts {
				t.Errorf("the operation %d: Newest = %v, %d", op, d, e)
			}
			r, list, places := ask([]int{op}, 0)
			v := newestOf(list, places)
			d, e = Step(r.c, 0, v)
			if fails := op == 1 || dirty; fails != (e == api.ErrIO) || fails && d != (api.Data{}) || !fails && d.Ts != list[1].Ts {
				t.Errorf("the operation %d: Step = %v, %d", op, d, e)
			}
			r.wantHeld("of a fetch alone")
		}
	}
}

// callsOf are calls that look at all of page 0's versions, and tell whether what they answer beside the error is right.
func callsOf(list []api.Version, places []api.Ref) []func(c *cache.Cache) (api.Errno, bool) {
	return []func(c *cache.Cache) (api.Errno, bool){
		func(c *cache.Cache) (api.Errno, bool) {
			got, e := Versions(c, 0)
			return e, e == api.OK && slices.Equal(got, list) || e != api.OK && len(got) == 0
		},
		func(c *cache.Cache) (api.Errno, bool) {
			got, e := Refs(c, 0)
			return e, e == api.OK && slices.Equal(got, places) || e != api.OK && len(got) == 0
		},
		func(c *cache.Cache) (api.Errno, bool) {
			oldest := list[len(list)-1]
			got, e := At(c, 0, oldest.Ts)
			return e, e == api.OK && got == oldest || e != api.OK && got == (api.Version{})
		},
	}
}

func TestNoFrame(t *testing.T) { // P17.1, P17.2, P17.3, P17.4, P17.5
	r := rigOf(t, 4, 8, 4)
	list, places := r.lay(0, 4, 3)
	r.sweep(4, data(4), data(5), data(6), data(7))
	held := []api.PageID{data(4), data(5), data(6), data(7)}
	for _, id := range held {
		r.c.Fetch(id)
	}
	if d, e := Newest(r.c, 0); d != (api.Data{}) || e != api.ErrNoFrame {
		t.Errorf("Newest = %v, %d", d, e)
	}
	r.wantBroken("all frames are held", 0, api.ErrNoFrame)
	r.wantAt("all frames are held", 0, math.MaxUint32, api.Version{}, api.ErrNoFrame)
	if d, e := Step(r.c, 0, newestOf(list, places)); d != (api.Data{}) || e != api.ErrNoFrame {
		t.Errorf("Step = %v, %d", d, e)
	}
	r.wantHeld("all frames are held", held...)
	// The data page is there, held by somebody else: that hold stays, but no undo page finds a frame.
	r.c.Unpin(data(4))
	r.c.Fetch(data(0))
	held[0] = data(0)
	r.wantAt("no frame for an undo page", 0, list[0].Ts, list[0], api.OK)
	r.wantAt("no frame for an undo page", 0, list[0].Ts-1, api.Version{}, api.ErrNoFrame)
	r.wantBroken("no frame for an undo page", 0, api.ErrNoFrame)
	r.wantHeld("no frame for an undo page", held...)
	if d, e := Newest(r.c, 0); d != newestOf(list, places) || e != api.OK {
		t.Errorf("Newest = %v, %d", d, e)
	}
	r.wantHeld("no frame for an undo page", held...)
	for _, id := range held {
		r.c.Unpin(id)
	}
	r.wantVersions("all given back", 0, list, places)
}

func TestOneFrame(t *testing.T) { // P17.3, P17.4, P17.5: each page is given back before the next one is fetched
	r := rigOf(t, 4, 8, 6)
	list, places := r.lay(0, 20, 5)
	r.sweep(4, data(4), data(5), data(6), data(7))
	held := []api.PageID{data(4), data(5), data(6)}
	for _, id := range held {
		r.c.Fetch(id)
	}
	for _, call := range callsOf(list, places) {
		if e, ok := call(r.c); e != api.OK || !ok {
			t.Errorf("with one frame: %d, as it should be: %v", e, ok)
		}
		r.wantHeld("with one frame", held...)
	}
}

func TestEnds(t *testing.T) { // P17.5
	r := rigOf(t, 4, 2, 2)
	r.putData(1, api.Data{Ts: 9, Prev: api.Ref{Page: 1}})
	for _, c := range [][2]uint32{{8, 7}, {8, 8}, {7, 8}, {9, 9}, {0, 0}, {math.MaxUint32, 3}} {
		// Each record leads to the other one.
		r.putUndo(0, api.Undo{Olds: []api.Old{{Live: true, Page: 1, Ts: c[0], Next: api.Ref{Page: 2}}}})
		r.putUndo(1, api.Undo{Olds: []api.Old{{Live: true, Page: 1, Ts: c[1], Next: api.Ref{Page: 1}}}})
		r.wantBroken("a circle of two", 1, api.ErrForm)
		r.wantHeld("a circle of two")
		// The first one leads to itself.
		r.putUndo(0, api.Undo{Olds: []api.Old{{Live: true, Page: 1, Ts: c[0], Next: api.Ref{Page: 1}}}})
		r.wantBroken("a circle of one", 1, api.ErrForm)
		r.wantHeld("a circle of one")
	}
}

func TestLongest(t *testing.T) { // P17.4, P17.5: all slots of all undo pages
	const records = api.MaxUndo * api.MaxSlots
	r := rigOf(t, 4, 1, api.MaxUndo)
	want := []api.Version{{Ts: records, Body: bodyOf(1)}}
	var refs []api.Ref
	for i := range records {
		want = append(want, api.Version{Ts: uint32(records - 1 - i), Body: bodyOf(1)})
		refs = append(refs, api.Ref{Page: uint16(i%api.MaxUndo) + 1, Slot: uint8(i / api.MaxUndo)})
	}
	for no := range uint16(api.MaxUndo) {
		var u api.Undo
		for s := range api.MaxSlots {
			i := s*api.MaxUndo + int(no)
			o := api.Old{Live: true, Ts: want[i+1].Ts}
			if i+1 < records {
				o.Next = refs[i+1]
			}
			u.Olds = append(u.Olds, o)
		}
		r.putUndo(no, u)
	}
	r.putData(0, api.Data{Ts: records, Prev: refs[0], Body: bodyOf(1)})
	r.wantVersions("the longest", 0, want, refs)
	r.wantAt("the longest", 0, 0, want[records], api.OK)
}

func TestOwnLists(t *testing.T) { // P17.4, rule 4
	r := rigOf(t, 4, 4, 4)
	list, places := r.lay(1, 9, 2)
	a, _ := Versions(r.c, 1)
	b, _ := Versions(r.c, 1)
	refs, _ := Refs(r.c, 1)
	others, _ := Refs(r.c, 1)
	clear(a[:cap(a)])
	clear(refs[:cap(refs)])
	if !slices.Equal(b, list) || !slices.Equal(others, places) {
		t.Error("two answers share memory")
	}
	r.wantVersions("other lists were changed", 1, list, places)
}

func TestChangesNothing(t *testing.T) { // rule 3: what a page holds, and what is dirty, stays, with an error and without
	r := rigOf(t, 32, 4, 4)
	list, places := r.lay(1, 9, 2)
	r.putData(2, api.Data{Ts: 4, Prev: api.Ref{Page: 9}})
	dirt := r.c.Dirty()
	r.d.Plan(nil, 0)
	for range 2 {
		r.wantVersions("again", 1, list, places)
		r.wantBroken("again", 2, api.ErrForm)
		r.wantAt("again", 2, 3, api.Version{}, api.ErrForm)
		r.wantSteps("again", 1, list, places)
	}
	if !slices.Equal(r.c.Dirty(), dirt) || r.d.Ops() != 0 {
		t.Error("pages were changed, or the disk was asked")
	}
}

func TestTorn(t *testing.T) { // P17.1, P17.2: a page whose block is none of its own is blank
	r := rigOf(t, 4, 2, 2)
	for b := 2; b < 6; b++ {
		r.d.Write(b, seal.Seal(1, page.PutData(9, api.Data{Ts: 5})))
	}
	r.wantVersions("torn", 0, []api.Version{{}}, nil)
	r.wantStep("torn", 0, api.Data{Ts: 9, Prev: api.Ref{Page: 1}}, api.Data{}, api.ErrForm)
	r.d.Write(3, seal.Seal(1, page.PutData(1, api.Data{Ts: 5})))
	r.wantVersions("whole", 1, []api.Version{{Ts: 5}}, nil)
}

func TestAlone(t *testing.T) { // rule 6
	a, b := rigOf(t, 4, 4, 4), rigOf(t, 5, 4, 4)
	list, places := a.lay(1, 9, 2)
	others, theirs := b.lay(1, 4, 3)
	for range 2 {
		a.wantVersions("one", 1, list, places)
		b.wantVersions("the other", 1, others, theirs)
	}
}

// plain is a chain's pages told anew, with a cache over which they are looked at as the chapter says.
type plain struct {
	twin *rig
	data map[uint16]api.Data
	undo map[uint16]api.Undo
}

// look fetches a page of the twin, and gives it back.
func (p *plain) look(id api.PageID) api.Errno {
	_, e := p.twin.c.Fetch(id)
	if e == api.OK {
		p.twin.c.Unpin(id)
	}
	return e
}

func (p *plain) newest(no uint16) (api.Data, api.Errno) {
	if e := p.look(data(no)); e != api.OK {
		return api.Data{}, e
	}
	return p.data[no], api.OK
}

func (p *plain) step(no uint16, v api.Data) (api.Data, api.Errno) {
	if v.Prev.Page == 0 {
		return api.Data{}, api.ErrArg
	}
	switch e := p.look(undo(v.Prev.Page - 1)); e {
	case api.OK:
	case api.ErrArg:
		return api.Data{}, api.ErrForm
	default:
		return api.Data{}, e
	}
	for s, o := range p.undo[v.Prev.Page-1].Olds {
		body, e := delta.Apply(v.Body, o.Delta)
		if s == int(v.Prev.Slot) && o.Live && o.Page == no && o.Ts < v.Ts && e == api.OK {
			return api.Data{Ts: o.Ts, Prev: o.Next, Body: body}, api.OK
		}
	}
	return api.Data{}, api.ErrForm
}

// walk goes over a page's versions up to one that is no newer than a timestamp; a timestamp below 0: over all.
func (p *plain) walk(no uint16, ts int) (list []api.Data, last bool, err api.Errno) {
	v, e := p.newest(no)
	for {
		if e != api.OK {
			return nil, false, e
		}
		list = append(list, v)
		if int(v.Ts) <= ts {
			return list, true, api.OK
		}
		if v.Prev.Page == 0 {
			return list, false, api.OK
		}
		v, e = p.step(no, v)
	}
}

// pair is a cache whose chains are asked for, and the same told anew.
type pair struct {
	*rig
	plain *plain
	long  int // how many lists of three versions or more were told
}

func pairOf(t *testing.T, frames, pages, undo int) *pair {
	p := &plain{twin: rigOf(t, frames, pages, undo), data: make(map[uint16]api.Data), undo: make(map[uint16]api.Undo)}
	return &pair{rig: rigOf(t, frames, pages, undo), plain: p}
}

// both does something with the cache and with its twin.
func (p *pair) both(do func(r *rig)) {
	do(p.rig)
	do(p.plain.twin)
}

func (p *pair) ask(x *rand.Rand) {
	p.t.Helper()
	no := uint16(x.Intn(p.pages + 1))
	switch x.Intn(5) {
	case 0:
		got, e := Newest(p.c, no)
		if want, err := p.plain.newest(no); got != want || e != err {
			p.t.Fatalf("Newest(%d) = %v, %d, want %v, %d", no, got, e, want, err)
		}
	case 1:
		v := api.Data{LSN: x.Uint64(), Ts: uint32(x.Intn(20)), Prev: p.ref(x), Body: bodyOf(x.Intn(99))}
		got, e := Step(p.c, no, v)
		if want, err := p.plain.step(no, v); got != want || e != err {
			p.t.Fatalf("Step(%d, %v) = %v, %d, want %v, %d", no, v, got, e, want, err)
		}
	case 2:
		ts := x.Intn(20)
		got, e := At(p.c, no, uint32(ts))
		list, last, err := p.plain.walk(no, ts)
		var want api.Version
		if last {
			want = version(list[len(list)-1])
		} else if err == api.OK {
			err = api.ErrForm
		}
		if got != want || e != err {
			p.t.Fatalf("At(%d, %d) = %v, %d, want %v, %d", no, ts, got, e, want, err)
		}
	case 3:
		got, e := Versions(p.c, no)
		list, _, err := p.plain.walk(no, -1)
		var want []api.Version
		for _, v := range list {
			want = append(want, api.Version{Ts: v.Ts, Body: v.Body})
		}
		if !slices.Equal(got, want) || e != err {
			p.t.Fatalf("Versions(%d) = %v, %d, want %v, %d", no, got, e, want, err)
		}
		if len(got) > 2 {
			p.long++
		}
	case 4:
		got, e := Refs(p.c, no)
		list, _, err := p.plain.walk(no, -1)
		var want []api.Ref
		for i := range len(list) - 1 {
			want = append(want, list[i].Prev)
		}
		if !slices.Equal(got, want) || e != err {
			p.t.Fatalf("Refs(%d) = %v, %d, want %v, %d", no, got, e, want, err)
		}
	}
}

func (p *pair) ref(x *rand.Rand) api.Ref {
	return api.Ref{Page: uint16(x.Intn(p.undo + 2)), Slot: uint8(x.Intn(6))}
}

// change puts a page in both.
func (p *pair) change(x *rand.Rand) {
	if x.Intn(2) == 0 {
		no := uint16(x.Intn(p.pages))
		d := api.Data{Ts: uint32(12 + x.Intn(8)), Prev: p.next(x, no, 0), Body: bodyOf(x.Intn(99))}
		p.plain.data[no] = d
		p.both(func(r *rig) { r.putData(no, d) })
		return
	}
	no := uint16(x.Intn(p.undo))
	u := api.Undo{LSN: uint64(x.Intn(9))}
	for s := range 6 {
		u.Olds = append(u.Olds, p.old(x, no, s))
	}
	u.Olds[5].Live = true
	p.plain.undo[no] = u
	p.both(func(r *rig) { r.putUndo(no, u) })
}

// old is a record of an undo page, mostly one that makes a chain go on: the slots' parity tells the page, and the timestamps
// of the undo pages fall.
func (p *pair) old(x *rand.Rand, no uint16, slot int) api.Old {
	of := uint16(slot % 2)
	o := api.Old{Live: true, Page: of, Ts: uint32(14 - 3*int(no) + x.Intn(2)), Next: p.next(x, of, no+1)}
	o.Delta = delta.Make(bodyOf(x.Intn(99)), bodyOf(x.Intn(99)))
	switch x.Intn(24) {
	case 0:
		return api.Old{}
	case 1:
		o.Delta += "\x00"
	case 2:
		o.Page = uint16(x.Intn(3))
	case 3:
		o.Ts = uint32(x.Intn(20))
	}
	return o
}

// next is where a version tells the one ahead of it: mostly in an undo page from one on.
func (p *pair) next(x *rand.Rand, of, from uint16) api.Ref {
	at := int(from) + x.Intn(2)
	switch {
	case x.Intn(12) == 0:
		return p.ref(x)
	case at >= p.undo:
		return api.Ref{Slot: uint8(x.Intn(3))}
	}
	return api.Ref{Page: uint16(at) + 1, Slot: uint8(2*x.Intn(3)) + uint8(of)}
}

// same holds all that the cache tells of its pages, and the count of the disk's operations, against the twin's.
func (p *pair) same() {
	p.t.Helper()
	a, b := p.rig, p.plain.twin
	for _, id := range a.all() {
		if a.c.Resident(id) != b.c.Resident(id) || a.c.Pins(id) != b.c.Pins(id) || a.c.Clean(id) != b.c.Clean(id) || a.c.Torn(id) != b.c.Torn(id) {
			p.t.Fatalf("%v was fetched otherwise", id)
		}
	}
	if a.d.Ops() != b.d.Ops() || a.d.Down() != b.d.Down() {
		p.t.Fatalf("%d operations, want %d", a.d.Ops(), b.d.Ops())
	}
}

func TestToldAnew(t *testing.T) { // P17.1, P17.2, P17.3, P17.4, P17.5
	for seed := range int64(12) {
		x := rand.New(rand.NewSource(seed))
		p := pairOf(t, []int{4, 5, 32}[seed%3], 2, 5)
		for no := range uint16(7) {
			for no < 2 && p.plain.data[no] == (api.Data{}) || no >= 2 && len(p.plain.undo[no-2].Olds) == 0 {
				p.change(x)
			}
		}
		for range 4000 {
			switch x.Intn(8) {
			case 0:
				p.change(x)
			case 1:
				fails, fuse := []int{1 + x.Intn(4), 1 + x.Intn(9)}, x.Intn(4)*x.Intn(4)
				p.both(func(r *rig) { r.d.Plan(fails, fuse) })
				for range 3 {
					p.ask(x)
					p.same()
				}
				p.both(func(r *rig) { r.d.Crash(nil) })
			default:
				p.ask(x)
			}
			p.same()
			p.wantHeld("told anew")
		}
		if p.long < 100 {
			t.Errorf("only %d lists were long", p.long)
		}
	}
}
