package slot

import (
	"math"
	"math/rand"
	"slices"
	"strings"
	"testing"

	"varve/api"
)

// The helpers here tell the chapter's words by other means than the package does.

const lsn = 0x1112131415161718

// live is a Live Old whose Delta has n bytes, and whose fields tell which one it is.
func live(n, mark int) api.Old {
	next := api.Ref{Page: uint16(500 + mark), Slot: uint8(mark)}
	return api.Old{Live: true, Page: uint16(mark), Ts: uint32(1000 + mark), Next: next, Delta: strings.Repeat("d", n)}
}

// olds is an undo page of Live Olds with such Deltas; -1 stands for one that isn't Live.
func olds(lens ...int) api.Undo {
	u := api.Undo{LSN: lsn}
	for i, n := range lens {
		o := api.Old{}
		if n >= 0 {
			o = live(n, i+1)
		}
		u.Olds = append(u.Olds, o)
	}
	return u
}

func repeat(n, times int) []int { return slices.Repeat([]int{n}, times) }

func same(u, v api.Undo) bool { return u.LSN == v.LSN && slices.Equal(u.Olds, v.Olds) }

func empty(u api.Undo) bool { return u.LSN == 0 && len(u.Olds) == 0 }

// mayBe is what chapter 6 says of an undo page.
func mayBe(u api.Undo) bool {
	ok := len(u.Olds) <= 15
	size := 16
	for i, o := range u.Olds {
		zero := o.Page == 0 && o.Ts == 0 && o.Next.Page == 0 && o.Next.Slot == 0 && o.Delta == ""
		ok = ok && (o.Live || zero && i < len(u.Olds)-1) && len(o.Delta) <= 66
		size++
		if o.Live {
			size += 10 + len(o.Delta)
		}
	}
	return ok && size <= 224
}

// spares are the slots without a record, and the one behind all.
func spares(u api.Undo) []int {
	var list []int
	for i := range u.Olds {
		if !u.Olds[i].Live {
			list = append(list, i)
		}
	}
	return append(list, len(u.Olds))
}

// with is a page with another Old at a slot, or behind all.
func with(u api.Undo, at int, o api.Old) api.Undo {
	v := api.Undo{LSN: u.LSN, Olds: append([]api.Old{}, u.Olds[:at]...)}
	v.Olds = append(v.Olds, o)
	if at < len(u.Olds) {
		v.Olds = append(v.Olds, u.Olds[at+1:]...)
	}
	return v
}

// wantAdd is what Add must answer.
func wantAdd(u api.Undo, o api.Old) (api.Undo, uint8, api.Errno) {
	if !mayBe(u) || !o.Live || len(o.Delta) > 66 {
		return api.Undo{}, 0, api.ErrArg
	}
	at := spares(u)[0]
	if v := with(u, at, o); mayBe(v) {
		return v, uint8(at), api.OK
	}
	return api.Undo{}, 0, api.ErrFull
}

// isLive tells whether a page may be and has a record at a slot.
func isLive(u api.Undo, slot uint8) bool {
	return mayBe(u) && int(slot) < len(u.Olds) && u.Olds[slot].Live
}

// wantFree is what Free must answer.
func wantFree(u api.Undo, slot uint8) (api.Undo, api.Errno) {
	if !isLive(u, slot) {
		return api.Undo{}, api.ErrArg
	}
	v := with(u, int(slot), api.Old{})
	last := -1
	for i, o := range v.Olds {
		if o.Live {
			last = i
		}
	}
	v.Olds = v.Olds[:last+1]
	return v, api.OK
}

// wantCut is what Cut must answer.
func wantCut(u api.Undo, slot uint8) (api.Undo, api.Errno) {
	if !isLive(u, slot) {
		return api.Undo{}, api.ErrArg
	}
	o := u.Olds[slot]
	o.Next = api.Ref{}
	return with(u, int(slot), o), api.OK
}

// randomUndo is an undo page that may be, with what is not Live among it, often filled to the end.
func randomUndo(r *rand.Rand) api.Undo {
	u := api.Undo{LSN: r.Uint64() >> r.Intn(64)}
	room := 224 - 16
	longest := []int{0, 5, 20, 66}[r.Intn(4)]
	for n := r.Intn(16); n > 0 && len(u.Olds) < 15; n-- {
		dead := 0
		for len(u.Olds)+dead < 14 && r.Intn(3) == 0 {
			dead++
		}
		left := room - dead - 11
		if left < 0 {
			break
		}
		o := live(min(r.Intn(longest+1), left), r.Intn(200))
		u.Olds = append(u.Olds, make([]api.Old, dead)...)
		u.Olds = append(u.Olds, o)
		room = left - len(o.Delta)
	}
	return u
}

// pages are undo pages that may be: those of the edges, and random ones.
func pages() []api.Undo {
	list := []api.Undo{
		{}, {Olds: []api.Old{}}, {LSN: math.MaxUint64},
		{Olds: []api.Old{{Live: true}}},
		olds(0), olds(66), olds(66, 66), olds(66, 66, 30), olds(66, 66, 32), olds(66, 66, 43), olds(66, 66, 42),
		olds(-1, 66), olds(-1, -1, 3), olds(4, -1, 5), olds(-1, 3, -1, 4), olds(4, -1, -1, -1, 6),
		olds(repeat(0, 15)...), olds(repeat(0, 14)...), olds(repeat(2, 15)...), olds(repeat(2, 14)...),
		olds(append(repeat(-1, 14), 66)...), olds(append(repeat(-1, 13), 66)...),
		olds(append([]int{-1}, repeat(0, 14)...)...),
		olds(append(append(repeat(0, 13), -1), 0)...),
		olds(-1, 66, 66, 42), olds(-1, 66, 66, 31), olds(66, -1, 66, 32), olds(66, 66, -1, 30),
	}
	r := rand.New(rand.NewSource(1))
	for range 300 {
		list = append(list, randomUndo(r))
	}
	return list
}

// impossible are undo pages that may not be, each with a Live Old at its slot 1.
func impossible() map[string]api.Undo {
	dead := func(o api.Old) api.Undo { return api.Undo{LSN: lsn, Olds: []api.Old{o, live(3, 1)}} }
	return map[string]api.Undo{
		"16 Olds":                    olds(repeat(0, 16)...),
		"16 Olds, not all Live":      olds(append([]int{-1, 3}, append(repeat(-1, 13), 0)...)...),
		"300 Olds":                   olds(repeat(0, 300)...),
		"the last Old isn't Live":    olds(3, 4, -1),
		"a Page without Live":        dead(api.Old{Page: 1}),
		"a Ts without Live":          dead(api.Old{Ts: 1}),
		"a Next's Page without Live": dead(api.Old{Next: api.Ref{Page: 1}}),
		"a Next's Slot without Live": dead(api.Old{Next: api.Ref{Slot: 1}}),
		"a Delta without Live":       dead(api.Old{Delta: "x"}),
		"a Delta of 67":              olds(67, 3),
		"a Delta of 70000":           olds(3, 70000),
		"one byte beyond":            olds(66, 66, 44),
		"far beyond":                 olds(66, 66, 66, 66),
	}
}

// both are the pages that may be, and those that may not.
func both() []api.Undo {
	list := pages()
	for _, u := range impossible() {
		list = append(list, u)
	}
	return append(list, olds(-1), olds(append(repeat(-1, 299), 0)...))
}

// slots are all slots that a page of up to 16 Olds may be asked for, and some far behind.
func slots() []uint8 {
	list := []uint8{20, 100, 127, 128, 254, 255}
	for i := range 18 {
		list = append(list, uint8(i))
	}
	return list
}

func TestExamples(t *testing.T) { // P7.1, P7.2, P7.3, P7.4
	add := func(u api.Undo, n int, want uint8) api.Undo {
		t.Helper()
		v, at, e := Add(u, live(n, n))
		if at != want || e != api.OK {
			t.Fatalf("Add = %d, %d, want the slot %d", at, e, want)
		}
		return v
	}
	free := func(u api.Undo, slot uint8) api.Undo {
		t.Helper()
		v, e := Free(u, slot)
		if e != api.OK {
			t.Fatalf("Free(%d) = %d", slot, e)
		}
		return v
	}
	u := add(add(api.Undo{}, 1, 0), 2, 1)
	u = add(free(u, 0), 3, 0)
	if u = free(u, 1); len(u.Olds) != 1 || u.Olds[0] != live(3, 3) {
		t.Errorf("what is left: %v", u)
	}
	full := olds(66, 66, 30)
	if Fits(full, 3) || !Fits(full, 2) {
		t.Error("66, 66 and 30: there is room for 2 bytes, and no more")
	}
	if v, at, e := Add(full, live(3, 9)); !empty(v) || at != 0 || e != api.ErrFull {
		t.Errorf("Add of 3 bytes = %v, %d, %d", v, at, e)
	}
	if v, at, e := Add(full, live(2, 9)); !same(v, with(full, 3, live(2, 9))) || at != 3 || e != api.OK {
		t.Errorf("Add of 2 bytes = %v, %d, %d", v, at, e)
	}
}

func TestAdd(t *testing.T) { // P7.1
	for _, c := range []struct {
		name string
		u    api.Undo
		n    int
		slot uint8
		err  api.Errno
	}{
		{"to none", api.Undo{}, 66, 0, api.OK},
		{"to none, nothing", api.Undo{}, 0, 0, api.OK},
		{"to none, a byte more than may be", api.Undo{}, 67, 0, api.ErrArg},
		{"to none, far more", api.Undo{}, 70000, 0, api.ErrArg},
		{"behind all", olds(3, 4), 5, 2, api.OK},
		{"the first that isn't Live", olds(3, -1, 4), 5, 1, api.OK},
		{"the slot 0", olds(-1, 3, 4), 5, 0, api.OK},
		{"of two that aren't Live the first", olds(3, -1, 4, -1, 5), 5, 1, api.OK},
		{"of many that aren't Live the first", olds(append(repeat(-1, 14), 3)...), 66, 0, api.OK},
		{"as the last of 15", olds(repeat(0, 14)...), 2, 14, api.OK},
		{"as a 16th", olds(repeat(0, 15)...), 0, 0, api.ErrFull},
		{"into one of 15", olds(append(append(repeat(0, 7), -1), repeat(0, 7)...)...), 3, 7, api.OK},
		{"to the last byte, behind", olds(66, 66, 30), 2, 3, api.OK},
		{"one byte beyond, behind", olds(66, 66, 30), 3, 0, api.ErrFull},
		{"to the last byte, in between", olds(66, -1, 66, 30), 2, 1, api.OK},
		{"one byte beyond, in between", olds(66, -1, 66, 30), 3, 0, api.ErrFull},
		{"into a full one", olds(66, 66, 43), 0, 0, api.ErrFull},
		{"a byte more than may be into a full one", olds(66, 66, 43), 67, 0, api.ErrArg},
	} {
		o := live(c.n, 99)
		v, at, e := Add(c.u, o)
		if at != c.slot || e != c.err {
			t.Errorf("%s: Add = %d, %d", c.name, at, e)
		}
		if e != api.OK && !empty(v) || e == api.OK && !same(v, with(c.u, int(c.slot), o)) {
			t.Errorf("%s: the page is %v", c.name, v)
		}
	}
}

func TestAddRefused(t *testing.T) { // P7.1
	refused := func(name string, u api.Undo, o api.Old) {
		t.Helper()
		if v, at, e := Add(u, o); !empty(v) || at != 0 || e != api.ErrArg {
			t.Errorf("%s: Add = %v, %d, %d", name, v, at, e)
		}
	}
	for name, u := range impossible() {
		refused(name, u, live(0, 9))
		refused(name, u, api.Old{Live: true})
		refused(name, u, live(67, 9))
		refused(name, u, api.Old{})
	}
	for _, u := range pages() {
		refused("none", u, api.Old{})
		refused("one that isn't Live", u, api.Old{Page: 1, Ts: 2, Delta: "d"})
		refused("one that is too long", u, live(67, 9))
	}
}

// All calls that answer a page are held against the words of the chapter.
func TestAgainstTheWords(t *testing.T) { // P7.1, P7.3
	for _, u := range both() {
		for _, o := range []api.Old{{}, {Live: true}, {Ts: 1}, live(1, 7), live(20, 8), live(66, 9), live(67, 10)} {
			v, at, e := Add(u, o)
			if v1, at1, e1 := wantAdd(u, o); !same(v, v1) || at != at1 || e != e1 {
				t.Fatalf("Add(%v, %v) = %v, %d, %d, want %v, %d, %d", u, o, v, at, e, v1, at1, e1)
			}
		}
		for _, slot := range slots() {
			v, e := Free(u, slot)
			if v1, e1 := wantFree(u, slot); !same(v, v1) || e != e1 {
				t.Fatalf("Free(%v, %d) = %v, %d, want %v, %d", u, slot, v, e, v1, e1)
			}
			v, e = Cut(u, slot)
			if v1, e1 := wantCut(u, slot); !same(v, v1) || e != e1 {
				t.Fatalf("Cut(%v, %d) = %v, %d, want %v, %d", u, slot, v, e, v1, e1)
			}
		}
	}
}

func TestFits(t *testing.T) { // P7.2
	ns := []int{math.MinInt, math.MinInt + 1, -1 << 32, -67, -1, 67, 68, 255, 256, 1 << 16, 1 << 32, 1<<32 + 1, math.MaxInt - 1, math.MaxInt}
	for n := range 67 {
		ns = append(ns, n)
	}
	for _, u := range both() {
		for _, n := range ns {
			want := false
			if n >= 0 && n <= 66 {
				_, _, e := wantAdd(u, live(n, 3))
				_, _, e1 := Add(u, live(n, 4))
				_, _, e2 := Add(u, api.Old{Live: true, Delta: strings.Repeat("\x00", n)})
				want = e == api.OK
				if e1 != e || e2 != e {
					t.Fatalf("Add to %v of %d bytes = %d, %d, want %d", u, n, e1, e2, e)
				}
			}
			if got := Fits(u, n); got != want {
				t.Fatalf("Fits(%v, %d) = %v", u, n, got)
			}
		}
	}
}

func TestFitsAtTheEdges(t *testing.T) { // P7.2
	for _, c := range []struct {
		u    api.Undo
		n    int
		want bool
	}{
		{api.Undo{}, -1, false},
		{api.Undo{}, 0, true},
		{api.Undo{}, 66, true},
		{api.Undo{}, 67, false},
		{olds(repeat(0, 15)...), 0, false},
		{olds(repeat(0, 14)...), 0, true},
		{olds(append([]int{-1}, repeat(0, 14)...)...), 0, true},
		{olds(66, 66, 32), 0, true},
		{olds(66, 66, 33), 0, false},
		{olds(66, 66, 43), 0, false},
		{olds(-1, 66, 66, 32), 0, true},
		{olds(-1, 66, 66, 33), 0, false},
		{olds(-1), 0, false},
		{olds(67), 0, false},
	} {
		if got := Fits(c.u, c.n); got != c.want {
			t.Errorf("Fits(%v, %d) = %v", c.u, c.n, got)
		}
	}
}

func TestGet(t *testing.T) { // P7.3
	u := olds(3, -1, 66)
	for slot, want := range map[uint8]api.Old{0: live(3, 1), 2: live(66, 3)} {
		if o, ok := Get(u, slot); o != want || !ok {
			t.Errorf("Get(%d) = %v, %v, want %v", slot, o, ok, want)
		}
	}
	for _, slot := range []uint8{1, 3, 4, 15, 128, 255} {
		if o, ok := Get(u, slot); o != (api.Old{}) || ok {
			t.Errorf("Get(%d) = %v, %v", slot, o, ok)
		}
	}
	for _, u := range pages() {
		for _, slot := range slots() {
			o, ok := Get(u, slot)
			if ok != isLive(u, slot) || ok && o != u.Olds[slot] || !ok && o != (api.Old{}) {
				t.Fatalf("Get(%v, %d) = %v, %v", u, slot, o, ok)
			}
		}
	}
}

func TestOfPagesThatMayNotBe(t *testing.T) { // P7.1, P7.2, P7.3
	for name, u := range impossible() {
		if mayBe(u) || !u.Olds[1].Live {
			t.Fatalf("%s: no page for this test", name)
		}
		for _, slot := range slots() {
			if o, ok := Get(u, slot); o != (api.Old{}) || ok {
				t.Errorf("%s: Get(%d) = %v, %v", name, slot, o, ok)
			}
			if v, e := Free(u, slot); !empty(v) || e != api.ErrArg {
				t.Errorf("%s: Free(%d) = %v, %d", name, slot, v, e)
			}
			if v, e := Cut(u, slot); !empty(v) || e != api.ErrArg {
				t.Errorf("%s: Cut(%d) = %v, %d", name, slot, v, e)
			}
		}
		if Fits(u, 0) {
			t.Errorf("%s: Fits", name)
		}
	}
}

func TestFree(t *testing.T) { // P7.3
	for _, c := range []struct {
		u    api.Undo
		slot uint8
		left []int // the slots that stay as they were, -1 for an empty one
	}{
		{olds(3), 0, nil},
		{olds(3, 4), 0, []int{-1, 1}},
		{olds(3, 4), 1, []int{0}},
		{olds(3, 4, 5), 1, []int{0, -1, 2}},
		{olds(3, -1, 5), 2, []int{0}},
		{olds(3, -1, -1, -1, 5), 4, []int{0}},
		{olds(3, -1, 4, -1, -1, 5), 5, []int{0, -1, 2}},
		{olds(-1, -1, 5), 2, nil},
		{olds(append(repeat(-1, 14), 5)...), 14, nil},
		{olds(-1, 4, 5), 1, []int{-1, -1, 2}},
		{olds(66, 66, 43), 2, []int{0, 1}},
	} {
		want := api.Undo{LSN: lsn}
		for _, i := range c.left {
			o := api.Old{}
			if i >= 0 {
				o = c.u.Olds[i]
			}
			want.Olds = append(want.Olds, o)
		}
		if v, e := Free(c.u, c.slot); !same(v, want) || e != api.OK {
			t.Errorf("Free(%v, %d) = %v, %d, want %v", c.u, c.slot, v, e, want)
		}
	}
	for _, slot := range []uint8{1, 3, 15, 255} {
		if v, e := Free(olds(3, -1, 5), slot); !empty(v) || e != api.ErrArg {
			t.Errorf("Free of the slot %d = %v, %d", slot, v, e)
		}
	}
	if v, e := Free(api.Undo{LSN: 5}, 0); !empty(v) || e != api.ErrArg {
		t.Errorf("Free of none = %v, %d", v, e)
	}
}

func TestCut(t *testing.T) { // P7.3
	u := olds(3, -1, 5)
	v, e := Cut(u, 2)
	o := u.Olds[2]
	o.Next = api.Ref{}
	if !same(v, with(u, 2, o)) || e != api.OK {
		t.Errorf("Cut = %v, %d", v, e)
	}
	if w, e := Cut(v, 2); !same(w, v) || e != api.OK {
		t.Errorf("Cut once more = %v, %d", w, e)
	}
	// A Next's Slot goes with its Page.
	only := api.Undo{Olds: []api.Old{{Live: true, Next: api.Ref{Slot: 7}}}}
	if v, e := Cut(only, 0); e != api.OK || v.Olds[0] != (api.Old{Live: true}) {
		t.Errorf("Cut of a Slot alone = %v, %d", v, e)
	}
	for _, slot := range []uint8{1, 3, 15, 255} {
		if v, e := Cut(u, slot); !empty(v) || e != api.ErrArg {
			t.Errorf("Cut of the slot %d = %v, %d", slot, v, e)
		}
	}
}

func TestLive(t *testing.T) { // P7.4
	for _, c := range []struct {
		u    api.Undo
		want int
	}{
		{api.Undo{}, 0},
		{api.Undo{LSN: 9}, 0},
		{olds(3), 1},
		{olds(-1, 3), 1},
		{olds(3, -1, 4, -1, 5), 3},
		{olds(repeat(0, 15)...), 15},
		// These may not be.
		{olds(-1), 0},
		{olds(3, -1), 1},
		{olds(repeat(0, 16)...), 16},
		{olds(repeat(70, 300)...), 300},
		{api.Undo{Olds: []api.Old{{Page: 1, Ts: 2, Delta: "d"}, {Live: true}}}, 1},
	} {
		if got := Live(c.u); got != c.want {
			t.Errorf("Live(%v) = %d, want %d", c.u, got, c.want)
		}
	}
	for _, u := range both() {
		if got := Live(u); got != len(u.Olds)+1-len(spares(u)) {
			t.Errorf("Live(%v) = %d", u, got)
		}
	}
}

func TestFreeOfWhatWasAdded(t *testing.T) { // P7.5
	for _, u := range pages() {
		for _, n := range []int{0, 1, 20, 66} {
			o := live(n, 42)
			v, at, e := Add(u, o)
			if e != api.OK {
				continue
			}
			if got, ok := Get(v, at); got != o || !ok || Live(v) != Live(u)+1 {
				t.Fatalf("what was added to %v is %v, %v", u, got, ok)
			}
			if w, e := Free(v, at); !same(w, u) || e != api.OK {
				t.Fatalf("Add to %v, and Free of it: %v, %d", u, w, e)
			}
		}
	}
}

// checkOthers fails if a slot but one has another record than it had, or the LSN is another one.
func checkOthers(t *testing.T, u, v api.Undo, but uint8) {
	t.Helper()
	if u.LSN != v.LSN {
		t.Fatalf("the LSN %d became %d", u.LSN, v.LSN)
	}
	for _, slot := range slots() {
		o, ok := Get(u, slot)
		if o1, ok1 := Get(v, slot); slot != but && (o != o1 || ok != ok1) {
			t.Fatalf("the slot %d of %v became %v", slot, u, o1)
		}
	}
}

// One page goes through many calls: each record is there, as it was, till it is freed.
func TestOthersStay(t *testing.T) { // P7.5
	r := rand.New(rand.NewSource(2))
	for range 30 {
		u := api.Undo{LSN: r.Uint64()}
		for range 300 {
			slot := uint8(r.Intn(16))
			var v api.Undo
			var e api.Errno
			switch r.Intn(5) {
			case 0, 1:
				v, slot, e = Add(u, live(r.Intn(30), r.Intn(200)))
			case 2, 3:
				v, e = Free(u, slot)
			default:
				v, e = Cut(u, slot)
			}
			if e != api.OK {
				continue
			}
			if !mayBe(v) {
				t.Fatalf("%v became %v", u, v)
			}
			checkOthers(t, u, v, slot)
			u = v
		}
	}
}

// spared is a copy of a page whose Olds have spare room behind them, and that room.
func spared(u api.Undo) (api.Undo, []api.Old) {
	room := make([]api.Old, len(u.Olds)+3)
	copy(room, u.Olds)
	for i := range 3 {
		room[len(u.Olds)+i] = api.Old{Live: true, Ts: 77, Delta: "spare"}
	}
	return api.Undo{LSN: u.LSN, Olds: room[:len(u.Olds)]}, room
}

// checkAlone fails if a call changes the page that it is handed or what is behind it, or answers a part of that.
func checkAlone(t *testing.T, u api.Undo, call func(api.Undo) api.Undo) {
	t.Helper()
	want := call(u)
	want.Olds = slices.Clone(want.Olds)
	v, room := spared(u)
	kept := slices.Clone(room)
	got := call(v)
	if v.LSN != u.LSN || !slices.Equal(room, kept) {
		t.Fatalf("%v became %v", kept, room)
	}
	clear(room)
	if !same(got, want) {
		t.Fatalf("%v hangs on what was handed in", got)
	}
	copy(room, kept)
	clear(got.Olds[:cap(got.Olds)])
	if !slices.Equal(room, kept) {
		t.Fatalf("what was handed in hangs on the answer: %v", room)
	}
}

func TestHandedIn(t *testing.T) { // P7.5
	for _, u := range both() {
		for _, n := range []int{0, 3, 66, 67} {
			checkAlone(t, u, func(u api.Undo) api.Undo {
				v, _, _ := Add(u, live(n, 42))
				Fits(u, n)
				Live(u)
				return v
			})
		}
		for _, slot := range slots() {
			checkAlone(t, u, func(u api.Undo) api.Undo {
				v, _ := Free(u, slot)
				return v
			})
			checkAlone(t, u, func(u api.Undo) api.Undo {
				v, _ := Cut(u, slot)
				Get(u, slot)
				return v
			})
		}
	}
}
