package room

import (
	"math"
	"math/rand"
	"slices"
	"strings"
	"testing"

	"varve/api"
	"varve/slot"
)

// pageOf is a page of records whose Deltas have so many bytes; a number below 0 is one that isn't live.
func pageOf(lsn uint64, sizes ...int) api.Undo {
	u := api.Undo{LSN: lsn}
	for i, n := range sizes {
		var o api.Old
		if n >= 0 {
			o = api.Old{Live: true, Page: uint16(i + 1), Ts: uint32(n), Next: api.Ref{Page: 7, Slot: uint8(i)}, Delta: strings.Repeat("x", n)}
		}
		u.Olds = append(u.Olds, o)
	}
	return u
}

// full is a page in which no further record has room.
func full(lsn uint64) api.Undo {
	return pageOf(lsn, 66, 66, 43)
}

func samePage(a, b api.Undo) bool {
	return a.LSN == b.LSN && slices.Equal(a.Olds, b.Olds)
}

func wantPage(t *testing.T, name string, r *Room, no int, want api.Undo) {
	t.Helper()
	if got := r.Page(no); !samePage(got, want) {
		t.Errorf("%s: Page(%d) = %v, want %v", name, no, got, want)
	}
}

func wantFind(t *testing.T, name string, r *Room, n, want int, is bool) {
	t.Helper()
	if got, ok := r.Find(n); got != want || ok != is {
		t.Errorf("%s: Find(%d) = %d, %v, want %d, %v", name, n, got, ok, want, is)
	}
}

func wantRefs(t *testing.T, name string, r *Room, want ...api.Ref) {
	t.Helper()
	if got := r.Refs(); !slices.Equal(got, want) || r.Live() != len(want) {
		t.Errorf("%s: Refs = %v, Live = %d, want %v", name, got, r.Live(), want)
	}
}

// some is a page of each kind that there is.
func some() []api.Undo {
	return []api.Undo{{}, {LSN: 4}, pageOf(5, 3), pageOf(6, -1, 66), full(7), mayNot(8), mayNot(9, 1), pageOf(math.MaxUint64, slices.Repeat([]int{0}, 15)...)}
}

// mayNot is a page that may not be: its last record isn't live.
func mayNot(lsn uint64, sizes ...int) api.Undo {
	return pageOf(lsn, append(sizes, -1)...)
}

func TestExample(t *testing.T) { // P18.3
	r := New(2)
	wantFind(t, "at first", r, 66, 0, true)
	r.Note(0, pageOf(1, 66, 66, 30))
	wantFind(t, "behind a Note", r, 66, 1, true)
	wantFind(t, "found last", r, 2, 1, true)
}

func TestNew(t *testing.T) { // P18.1
	for _, n := range []int{math.MinInt, math.MinInt + 1, -32, -2, -1, 0, 33, 34, 64, 255, 65536, math.MaxInt - 1, math.MaxInt} {
		if New(n) != nil {
			t.Errorf("New(%d) is there", n)
		}
	}
	for n := 1; n <= 32; n++ {
		r := New(n)
		if r == nil {
			t.Fatalf("New(%d) is nil", n)
		}
		wantRefs(t, "new", r)
		for no := -1; no <= 33; no++ {
			wantPage(t, "new", r, no, api.Undo{})
		}
		wantFind(t, "new", r, 66, 0, true)
		for no := range n { // there are just as many pages
			r.Note(no, full(1))
			wantFind(t, "some are full", r, 66, (no+1)%n, no+1 < n)
		}
		if r.Live() != 3*n {
			t.Errorf("New(%d): Live = %d", n, r.Live())
		}
	}
}

func TestNil(t *testing.T) { // P18.1
	var r *Room
	for _, n := range []int{math.MinInt, -1, 0, 1, 31, 32, 66, 67, math.MaxInt} {
		for _, u := range some() {
			r.Note(n, u)
			wantPage(t, "nil", r, n, api.Undo{})
			wantFind(t, "nil", r, n, 0, false)
			wantRefs(t, "nil", r)
		}
	}
}

func TestNote(t *testing.T) { // P18.2
	for _, n := range []int{1, 2, 5, 32} {
		r := New(n)
		held := make([]api.Undo, n)
		same := func(name string) {
			for no, u := range held {
				wantPage(t, name, r, no, u)
			}
		}
		for _, no := range []int{0, n / 2, n - 1} {
			for i, u := range some() {
				u.LSN += uint64(100*no + i)
				r.Note(no, u)
				held[no] = u
				same("noted")
			}
			for i, no := range []int{math.MinInt, math.MinInt + n - 1, -n, -1, n, n + 1, 2 * n, 33, 256 * n, math.MaxInt - 1, math.MaxInt} {
				if no >= 0 && no < n {
					continue
				}
				r.Note(no, pageOf(99, i))
				wantPage(t, "no such page", r, no, api.Undo{})
				same("no such page")
			}
		}
	}
	r := New(3)
	r.Note(1, full(4))
	r.Note(1, api.Undo{})
	wantPage(t, "empty again", r, 1, api.Undo{})
	wantRefs(t, "empty again", r)
}

func TestFindSizes(t *testing.T) { // P18.3
	r := New(3)
	for _, n := range []int{0, 1, 2, 65, 66} {
		wantFind(t, "all empty", r, n, 0, true)
	}
	for _, n := range []int{math.MinInt, math.MinInt + 66, -67, -66, -2, -1, 67, 68, 255, 256, 1 << 32, 1<<32 + 1, math.MaxInt - 1, math.MaxInt} {
		wantFind(t, "all empty", r, n, 0, false)
	}
	r.Note(1, full(1))
	r.Note(0, full(1))
	wantFind(t, "one empty", r, 66, 2, true)
	for _, n := range []int{math.MinInt, -1, 67, math.MaxInt} {
		wantFind(t, "one empty", r, n, 0, false)
	}
	for left := range 39 { // three records take all but what one more takes without its Delta, and so many bytes
		r := New(1)
		r.Note(0, pageOf(1, 66, 60, 38-left))
		wantFind(t, "as long as there is room", r, left, 0, true)
		wantFind(t, "a byte more", r, left+1, 0, false)
		r.Note(0, pageOf(1, 66, -1, 60, 38-left))
		wantFind(t, "in the place of one that isn't live", r, left, 0, true)
		wantFind(t, "a byte more", r, left+1, 0, false)
	}
	r = New(1)
	r.Note(0, pageOf(1, slices.Repeat([]int{0}, 14)...))
	wantFind(t, "a slot is left", r, 1, 0, true)
	r.Note(0, pageOf(1, slices.Repeat([]int{0}, 15)...))
	wantFind(t, "no slot is left", r, 0, 0, false)
}

func TestFindLast(t *testing.T) { // P18.3
	r := New(5)
	r.Note(0, full(1))
	r.Note(1, full(2))
	wantFind(t, "0 and 1 are full", r, 4, 2, true)
	r.Note(0, api.Undo{})
	wantFind(t, "2 has room still", r, 4, 2, true)
	r.Note(2, full(3))
	wantFind(t, "2 has none, a lesser one has", r, 4, 0, true)
	r.Note(2, api.Undo{})
	r.Note(0, full(1))
	wantFind(t, "0 has none, a greater one has", r, 4, 2, true)
	r.Note(2, pageOf(3, 66, 66, 30)) // room for 2 bytes
	wantFind(t, "2 has room for a short one", r, 2, 2, true)
	wantFind(t, "2 has none for a longer one", r, 3, 3, true)
	wantFind(t, "3 was found last, though 2 has room", r, 2, 3, true)
	r.Note(3, full(1))
	wantFind(t, "the least that has room", r, 2, 2, true)
	r.Note(2, full(1))
	wantFind(t, "the last one is left", r, 0, 4, true)
	r.Note(4, full(1))
	wantFind(t, "none has", r, 0, 0, false)
}

func TestFindNothing(t *testing.T) { // P18.3: a Find that finds nothing leaves the page found last
	for last := range 4 {
		r := New(4)
		for no := range last {
			r.Note(no, full(1))
		}
		wantFind(t, "found", r, 66, last, true)
		for no := range 4 {
			r.Note(no, api.Undo{})
		}
		for _, n := range []int{-1, 67} {
			wantFind(t, "nothing that fits", r, n, 0, false)
			wantFind(t, "behind it", r, 1, last, true)
		}
		for no := range 4 {
			r.Note(no, full(2))
		}
		for range 3 {
			wantFind(t, "none has room", r, 0, 0, false)
		}
		for no := range 4 {
			r.Note(no, api.Undo{})
		}
		wantFind(t, "all have room again", r, 0, last, true)
	}
	r := New(4) // at first it is the page 0, whatever wasn't found ahead of it
	wantFind(t, "nothing that fits", r, 67, 0, false)
	r.Note(2, full(1))
	wantFind(t, "the first one", r, 66, 0, true)
}

func TestFindChangesNothing(t *testing.T) { // P18.3: a page is as it was noted, however often it is found
	r := New(2)
	r.Note(0, pageOf(3, 66, 66))
	for range 40 {
		wantFind(t, "again", r, 33, 0, true)
	}
	wantPage(t, "found", r, 0, pageOf(3, 66, 66))
	wantPage(t, "not found", r, 1, api.Undo{})
	wantRefs(t, "found", r, api.Ref{Page: 1}, api.Ref{Page: 1, Slot: 1})
}

func TestLiveRefs(t *testing.T) { // P18.3
	r := New(4)
	wantRefs(t, "none", r)
	r.Note(3, pageOf(1, 5))
	wantRefs(t, "in the last page", r, api.Ref{Page: 4})
	r.Note(1, pageOf(1, -1, 4, -1, -1, 6, 0))
	wantRefs(t, "some that aren't live", r, api.Ref{Page: 2, Slot: 1}, api.Ref{Page: 2, Slot: 4}, api.Ref{Page: 2, Slot: 5}, api.Ref{Page: 4})
	r.Note(0, pageOf(1, 4, -1, 4))
	r.Note(1, pageOf(1, -1, 4))
	r.Note(3, api.Undo{LSN: 9})
	wantRefs(t, "noted anew", r, api.Ref{Page: 1}, api.Ref{Page: 1, Slot: 2}, api.Ref{Page: 2, Slot: 1})

	r = New(api.MaxUndo)
	var want []api.Ref
	for no := range api.MaxUndo {
		r.Note(no, pageOf(1, slices.Repeat([]int{2}, 15)...))
		for s := range 15 {
			want = append(want, api.Ref{Page: uint16(no + 1), Slot: uint8(s)})
		}
	}
	wantRefs(t, "all full", r, want...)
	wantFind(t, "all full", r, 0, 0, false)
}

func TestMayNot(t *testing.T) { // P18.2, P18.3: a page that may not be is noted, and has no room
	long := api.Undo{LSN: 2, Olds: []api.Old{{Live: true, Delta: strings.Repeat("x", 67)}}}
	odd := api.Undo{LSN: 3, Olds: []api.Old{{Ts: 1}, {Live: true}}}
	many := pageOf(4, slices.Repeat([]int{0}, 16)...)
	for _, c := range []struct {
		u    api.Undo
		live []uint8
	}{
		{mayNot(1), nil}, {mayNot(1, 4), []uint8{0}}, {mayNot(1, -1, 4), []uint8{1}}, {long, []uint8{0}}, {odd, []uint8{1}},
		{many, []uint8{0, 1, 2, 3, 4, 5, 6, 7, 8, 9, 10, 11, 12, 13, 14, 15}}, {pageOf(5, 66, 66, 44), []uint8{0, 1, 2}},
	} {
		r := New(2)
		r.Note(0, c.u)
		wantPage(t, "may not be", r, 0, c.u)
		var want []api.Ref
		for _, s := range c.live {
			want = append(want, api.Ref{Page: 1, Slot: s})
		}
		wantRefs(t, "may not be", r, want...)
		wantFind(t, "may not be", r, 0, 1, true)
		r.Note(1, c.u)
		wantFind(t, "neither may be", r, 0, 0, false)
		r.Note(1, full(1))
		r.Note(0, api.Undo{})
		wantFind(t, "one may be again", r, 66, 0, true)
	}
}

func TestOwn(t *testing.T) { // P18.2, P18.3, rule 4
	r := New(2)
	spare := make([]api.Old, 3, 9)
	copy(spare, pageOf(0, 9, 8, 7).Olds)
	whole := slices.Clone(spare[:9])
	u := api.Undo{LSN: 5, Olds: spare}
	want := pageOf(5, 9, 8, 7)
	same := func(name string) {
		t.Helper()
		wantPage(t, name, r, 0, want)
		wantRefs(t, name, r, api.Ref{Page: 1}, api.Ref{Page: 1, Slot: 1}, api.Ref{Page: 1, Slot: 2})
	}
	r.Note(0, u)
	r.Find(66)
	if !slices.Equal(spare[:9], whole) {
		t.Error("what was handed in was changed")
	}
	clear(spare[:9])
	same("what was handed in is changed")
	a, b := r.Page(0), r.Page(0)
	clear(a.Olds[:cap(a.Olds)])
	if !samePage(b, want) {
		t.Error("two answers share memory")
	}
	same("what Page answered is changed")
	refs, others := r.Refs(), r.Refs()
	clear(refs[:cap(refs)])
	if len(others) != 3 || others[2] != (api.Ref{Page: 1, Slot: 2}) {
		t.Error("two answers share memory")
	}
	same("what Refs answered is changed")
	r.Note(1, r.Page(0))
	r.Note(0, api.Undo{})
	wantPage(t, "noted of another page", r, 1, want)
}

func TestLeaving(t *testing.T) { // P18.4: behind a record's leaving there is room for one that is no longer
	x := rand.New(rand.NewSource(4))
	for range 300 {
		r := New(1 + x.Intn(4))
		fill(t, r, x)
		refs := r.Refs()
		at := refs[x.Intn(len(refs))]
		no := int(at.Page) - 1
		o, _ := slot.Get(r.Page(no), at.Slot)
		u, e := slot.Free(r.Page(no), at.Slot)
		if e != api.OK {
			t.Fatalf("Free = %d", e)
		}
		r.Note(no, u)
		for n := range len(o.Delta) + 1 {
			wantFind(t, "behind a leaving", r, n, no, true)
		}
	}
}

// fill adds records, where they are found room, till there is none for the shortest one: then no page has any.
func fill(t *testing.T, r *Room, x *rand.Rand) {
	t.Helper()
	for n := 66; n >= 0; n-- {
		for n == 0 || x.Intn(3) > 0 {
			no, ok := r.Find(n)
			if !ok {
				break
			}
			u, _, e := slot.Add(r.Page(no), api.Old{Live: true, Delta: strings.Repeat("x", n)})
			if e != api.OK {
				t.Fatalf("Find(%d) = %d, but Add = %d", n, no, e)
			}
			r.Note(no, u)
		}
	}
	for no := range r.pages {
		for n := range 67 {
			if slot.Fits(r.Page(no), n) {
				t.Fatalf("the page %d has room for %d bytes", no, n)
			}
		}
	}
}

func TestAlone(t *testing.T) { // rule 6
	a, b := New(3), New(3)
	a.Note(0, full(1))
	wantFind(t, "one", a, 66, 1, true)
	wantFind(t, "the other", b, 66, 0, true)
	b.Note(2, pageOf(4, 1))
	wantRefs(t, "one", a, api.Ref{Page: 1}, api.Ref{Page: 1, Slot: 1}, api.Ref{Page: 1, Slot: 2})
	wantRefs(t, "the other", b, api.Ref{Page: 3})
}

// notes is a room told anew: what each page holds, and which were found.
type notes struct {
	n     int
	pages map[int]api.Undo
	found []int
}

// fits is whether a record has room, by the sizes that a page's bytes have.
func (m *notes) fits(no, n int) bool {
	size, slots, dead := 16, 0, false
	olds := m.pages[no].Olds
	for i, o := range olds {
		slots++
		if o.Live {
			size += 11 + len(o.Delta)
		} else {
			size++
			dead = true
		}
		if i == len(olds)-1 && !o.Live || len(o.Delta) > 66 {
			return false
		}
	}
	if size > 224 || slots > 15 || n < 0 || n > 66 {
		return false
	}
	if dead {
		return size+10+n <= 224
	}
	return slots < 15 && size+11+n <= 224
}

func (m *notes) find(n int) (int, bool) {
	order := []int{0}
	if len(m.found) > 0 {
		order[0] = m.found[len(m.found)-1]
	}
	for no := range m.n {
		order = append(order, no)
	}
	for _, no := range order {
		if m.fits(no, n) {
			m.found = append(m.found, no)
			return no, true
		}
	}
	return 0, false
}

func (m *notes) refs() []api.Ref {
	var list []api.Ref
	for no := range m.n {
		for s, o := range m.pages[no].Olds {
			if o.Live {
				list = append(list, api.Ref{Page: uint16(no + 1), Slot: uint8(s)})
			}
		}
	}
	return list
}

func randomPage(x *rand.Rand) api.Undo {
	var sizes []int
	for range x.Intn(17) {
		n := x.Intn(8) - 2
		if x.Intn(3) == 0 {
			n = x.Intn(68)
		}
		sizes = append(sizes, max(n, -1))
	}
	return pageOf(x.Uint64(), sizes...)
}

func TestToldAnew(t *testing.T) { // P18.1, P18.2, P18.3, P18.4
	for seed := range int64(30) {
		x := rand.New(rand.NewSource(seed))
		n := 1 + x.Intn(6)
		r, m := New(n), &notes{n: n, pages: make(map[int]api.Undo)}
		for range 2000 {
			no := x.Intn(n+2) - 1
			switch x.Intn(3) {
			case 0:
				u := randomPage(x)
				r.Note(no, u)
				if no >= 0 && no < n {
					m.pages[no] = u
				}
			case 1:
				size := x.Intn(70) - 2
				want, is := m.find(size)
				wantFind(t, "told anew", r, size, want, is)
			case 2:
				wantPage(t, "told anew", r, no, m.pages[no])
				wantRefs(t, "told anew", r, m.refs()...)
			}
			if t.Failed() {
				return
			}
		}
	}
}
