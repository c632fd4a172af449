package apply

import (
	"math"
	"math/rand"
	"slices"
	"strings"
	"testing"

	"varve/api"
	"varve/page"
	"varve/rec"
)

// The helpers here tell the chapter's words by other means than the package does.

// laidOver is what a delta makes of a body, if it is one.
func laidOver(b api.Body, d string) (api.Body, bool) {
	behind := -1 // the place behind which a piece must begin
	for i := 0; i < len(d); {
		if i+2 > len(d) {
			return api.Body{}, false
		}
		at, n := int(d[i]), int(d[i+1])
		i += 2
		if n == 0 || at <= behind || at+n > 64 || i+n > len(d) {
			return api.Body{}, false
		}
		for j := range n {
			b[at+j] = d[i+j]
		}
		i += n
		behind = at + n
	}
	return b, true
}

// put is an undo page with an Old at a slot, or behind all, and without empty ones at its end.
func put(u api.Undo, at int, o api.Old) api.Undo {
	olds := append([]api.Old{}, u.Olds...)
	if at == len(olds) {
		olds = append(olds, o)
	}
	olds[at] = o
	for len(olds) > 0 && !olds[len(olds)-1].Live {
		olds = olds[:len(olds)-1]
	}
	return api.Undo{LSN: u.LSN, Olds: olds}
}

// first is the slot that a further record takes.
func first(u api.Undo) int {
	at := slices.IndexFunc(u.Olds, func(o api.Old) bool { return !o.Live })
	if at < 0 {
		return len(u.Olds)
	}
	return at
}

// wantUndo is what Redo must make of an undo page.
func wantUndo(no uint16, u api.Undo, e api.Entry) (api.Payload, api.Errno) {
	at := int(e.Rec.Slot)
	live := at < len(u.Olds) && u.Olds[at].Live
	switch {
	case e.Rec.Kind == 1:
	case e.Rec.Kind == 3 && at == first(u):
		u = put(u, at, e.Rec.Old)
	case e.Rec.Kind == 4 && live:
		u = put(u, at, api.Old{})
	case e.Rec.Kind == 5 && live:
		o := u.Olds[at]
		o.Next = api.Ref{}
		u = put(u, at, o)
	default:
		return api.Payload{}, api.ErrForm
	}
	u.LSN = e.LSN
	p, err := page.PutUndo(no, u)
	if err != api.OK {
		return api.Payload{}, api.ErrForm
	}
	return p, api.OK
}

// wantRedo is what Redo must answer.
func wantRedo(id api.PageID, p api.Payload, e api.Entry) (api.Payload, api.Errno) {
	r := e.Rec
	if _, err := rec.Encode(r); err != api.OK || r.Kind == 6 || r.Page.Undo != id.Undo || r.Page.No != id.No {
		return api.Payload{}, api.ErrArg
	}
	if r.Kind == 1 {
		p = r.Image
	}
	if id.Undo {
		u, err := page.GetUndo(id.No, p)
		if err != api.OK {
			return api.Payload{}, api.ErrForm
		}
		return wantUndo(id.No, u, e)
	}
	d, err := page.GetData(id.No, p)
	body, ok := laidOver(d.Body, r.Delta)
	if err != api.OK || !ok {
		return api.Payload{}, api.ErrForm
	}
	d.LSN, d.Body = e.LSN, body
	if r.Kind == 2 {
		d.Ts, d.Prev = r.Ts, r.Prev
	}
	return page.PutData(id.No, d), api.OK
}

// wantReplay is what Replay must answer.
func wantReplay(id api.PageID, p api.Payload, log []api.Entry) api.Payload {
	for _, e := range log {
		right := page.Right(id, p)
		switch {
		case e.Rec.Kind == 6 || e.Rec.Page.Undo != id.Undo || e.Rec.Page.No != id.No:
		case right && e.LSN <= page.LSN(p):
		case !right && e.Rec.Kind != 1:
		default:
			if q, err := wantRedo(id, p, e); err == api.OK {
				p = q
			}
		}
	}
	return p
}

// data and undo are the pages that most tests are about.
func data() api.PageID { return api.PageID{No: 3} }
func undo() api.PageID { return api.PageID{Undo: true, No: 3} }

// full is a data page with something in all fields.
func full() api.Data {
	d := api.Data{LSN: 50, Ts: 4, Prev: api.Ref{Page: 2, Slot: 1}}
	for i := range d.Body {
		d.Body[i] = byte(100 + i)
	}
	return d
}

// live is a Live Old whose Delta has n bytes, and whose fields tell which one it is.
func live(n, mark int) api.Old {
	next := api.Ref{Page: uint16(500 + mark), Slot: uint8(mark)}
	return api.Old{Live: true, Page: uint16(mark), Ts: uint32(1000 + mark), Next: next, Delta: strings.Repeat("d", n)}
}

// olds is an undo page of Live Olds with such Deltas; -1 stands for one that isn't Live.
func olds(lens ...int) api.Undo {
	u := api.Undo{LSN: 50}
	for i, n := range lens {
		o := api.Old{}
		if n >= 0 {
			o = live(n, i+1)
		}
		u.Olds = append(u.Olds, o)
	}
	return u
}

// laid is the payload of an undo page that may be.
func laid(t *testing.T, no uint16, u api.Undo) api.Payload {
	t.Helper()
	p, e := page.PutUndo(no, u)
	if e != api.OK {
		t.Fatalf("no page for this test: %v", u)
	}
	return p
}

// some is a payload of a page, with something in it.
func some(t *testing.T, id api.PageID) api.Payload {
	t.Helper()
	if id.Undo {
		return laid(t, id.No, olds(3, -1, 5))
	}
	return page.PutData(id.No, full())
}

// records are, by kind, ones that are about a page, and that some of that page takes.
func records(t *testing.T, id api.PageID) []api.Rec {
	t.Helper()
	image := api.Rec{Kind: api.RImage, Page: id, Image: page.Blank(id)}
	if !id.Undo {
		return []api.Rec{image, {Kind: api.RData, Page: id, Ts: 9, Delta: "\x05\x01x"}}
	}
	return []api.Rec{
		image,
		{Kind: api.RAdd, Page: id, Slot: 1, Old: live(4, 9)},
		{Kind: api.RFree, Page: id, Slot: 2},
		{Kind: api.RCut, Page: id, Slot: 2},
	}
}

// check fails if Redo answers other than it must; it tells what it answered.
func check(t *testing.T, name string, id api.PageID, p api.Payload, e api.Entry, want api.Errno) api.Payload {
	t.Helper()
	told, err := wantRedo(id, p, e)
	if err != want {
		t.Fatalf("%s: the test itself says %d, and %d", name, want, err)
	}
	got, err := Redo(id, p, e)
	if got != told || err != want {
		t.Errorf("%s: Redo = %x, %d, want %x, %d", name, got, err, told, want)
	}
	if err != api.OK && got != (api.Payload{}) {
		t.Errorf("%s: with an error: %x", name, got)
	}
	return got
}

func TestExamples(t *testing.T) { // P9.1, P9.2
	id := api.PageID{No: 1}
	blank := page.Blank(id)
	e := api.Entry{LSN: 9, Rec: api.Rec{Kind: api.RData, Page: id, Ts: 4}}
	want := page.PutData(1, api.Data{LSN: 9, Ts: 4})
	if p, err := Redo(id, blank, e); p != want || err != api.OK {
		t.Errorf("Redo = %x, %d", p, err)
	}
	if p := Replay(id, blank, []api.Entry{e}); p != want {
		t.Errorf("Replay = %x", p)
	}
	if p := Replay(id, blank, []api.Entry{e, e}); p != want {
		t.Errorf("Replay of it twice = %x", p)
	}
	if p := Replay(id, api.Payload{}, []api.Entry{e}); p != (api.Payload{}) {
		t.Errorf("of noughts: %x", p)
	}
	image := api.Entry{LSN: 8, Rec: api.Rec{Kind: api.RImage, Page: id, Image: blank}}
	if p := Replay(id, api.Payload{}, []api.Entry{image}); p != page.PutData(1, api.Data{LSN: 8}) {
		t.Errorf("of noughts, an image: %x", p)
	}
	other := api.PageID{Undo: true, No: 1}
	add := api.Entry{LSN: 9, Rec: api.Rec{Kind: api.RAdd, Page: other, Slot: 1, Old: api.Old{Live: true}}}
	if p, err := Redo(other, page.Blank(other), add); p != (api.Payload{}) || err != api.ErrForm {
		t.Errorf("an RAdd of the slot 1: %x, %d", p, err)
	}
}

// ids are pages' names, that differ in one field.
func ids() []api.PageID {
	return []api.PageID{{No: 0}, {Undo: true, No: 0}, {No: 3}, {Undo: true, No: 3}, {No: 4}, {Undo: true, No: 259}, {No: math.MaxUint16}, {Undo: true, No: math.MaxUint16}}
}

func TestOtherPages(t *testing.T) { // P9.1, P9.2
	for _, id := range ids() {
		for _, of := range ids() {
			for _, r := range records(t, of) {
				e := api.Entry{LSN: 60, Rec: r}
				if id == of {
					check(t, "about it", id, some(t, id), e, api.OK)
					continue
				}
				for _, p := range []api.Payload{some(t, id), some(t, of), page.Blank(id), {}} {
					check(t, "about another one", id, p, e, api.ErrArg)
					if q := Replay(id, p, []api.Entry{e}); q != p {
						t.Errorf("Replay of %v on %v = %x", r, id, q)
					}
				}
			}
		}
	}
}

// A commit has the page 0's name in it, but is about none.
func TestCommits(t *testing.T) { // P9.1, P9.2
	for _, id := range ids() {
		for _, ts := range []uint32{0, 1, math.MaxUint32} {
			e := api.Entry{LSN: 60, Rec: api.Rec{Kind: api.RCommit, Ts: ts}}
			named := api.Entry{LSN: 60, Rec: api.Rec{Kind: api.RCommit, Ts: ts, Page: id}}
			for _, p := range []api.Payload{some(t, id), page.Blank(id), {}} {
				check(t, "a commit", id, p, e, api.ErrArg)
				check(t, "a commit with a page", id, p, named, api.ErrArg)
				if q := Replay(id, p, []api.Entry{e, named}); q != p {
					t.Errorf("Replay of a commit on %v = %x", id, q)
				}
			}
		}
	}
}

// spoilt is a record with a field more, of each field that its kind hasn't.
func spoilt(r api.Rec) []api.Rec {
	var list []api.Rec
	add := func(f func(*api.Rec)) {
		s := r
		f(&s)
		if _, e := rec.Encode(s); e != api.OK {
			list = append(list, s)
		}
	}
	add(func(r *api.Rec) { r.Image[223] = 1 })
	add(func(r *api.Rec) { r.Ts = 1 })
	add(func(r *api.Rec) { r.Prev.Page = 1 })
	add(func(r *api.Rec) { r.Prev.Slot = 1 })
	add(func(r *api.Rec) { r.Delta = "\x05\x01x" })
	add(func(r *api.Rec) { r.Slot = 1 })
	add(func(r *api.Rec) { r.Old.Live = !r.Old.Live })
	add(func(r *api.Rec) { r.Old.Delta = "\x05\x01x" })
	add(func(r *api.Rec) { r.Delta, r.Old.Delta = strings.Repeat("x", 67), strings.Repeat("x", 67) })
	add(func(r *api.Rec) { r.Kind = 0 })
	add(func(r *api.Rec) { r.Kind = 7 })
	add(func(r *api.Rec) { r.Kind = 255 })
	return list
}

func TestRecordsThatMayNotBe(t *testing.T) { // P9.1, P9.2
	for _, id := range ids() {
		for _, r := range records(t, id) {
			list := spoilt(r)
			if len(list) < 8 {
				t.Fatalf("of %v only %d records may not be", r, len(list))
			}
			for _, s := range list {
				e := api.Entry{LSN: 60, Rec: s}
				for _, p := range []api.Payload{some(t, id), page.Blank(id), {}} {
					check(t, "it may not be", id, p, e, api.ErrArg)
					if q := Replay(id, p, []api.Entry{e}); q != p {
						t.Errorf("Replay of %v = %x", s, q)
					}
				}
			}
		}
	}
	// An undo page's record that says a data page, and the other way round.
	for _, r := range records(t, undo())[1:] {
		r.Page.Undo = false
		check(t, "of a data page", data(), some(t, data()), api.Entry{LSN: 60, Rec: r}, api.ErrArg)
	}
	r := records(t, data())[1]
	r.Page.Undo = true
	check(t, "of an undo page", undo(), some(t, undo()), api.Entry{LSN: 60, Rec: r}, api.ErrArg)
}

// wrong are payloads that are not the page's.
func wrong(t *testing.T, id api.PageID) map[string]api.Payload {
	t.Helper()
	turned, unsummed := some(t, id), some(t, id)
	turned[90] ^= 1
	unsummed[4] ^= 128
	var ones api.Payload
	for i := range ones {
		ones[i] = 255
	}
	return map[string]api.Payload{
		"noughts":        {},
		"all bits":       ones,
		"a bit turned":   turned,
		"the sum turned": unsummed,
		"another number": some(t, api.PageID{Undo: id.Undo, No: id.No + 1}),
		"another kind":   some(t, api.PageID{Undo: !id.Undo, No: id.No}),
		"another blank":  page.Blank(api.PageID{Undo: !id.Undo, No: id.No}),
	}
}

func TestWrongPayloads(t *testing.T) { // P9.1, P9.2
	for _, id := range []api.PageID{data(), undo(), {}, {Undo: true}} {
		for name, p := range wrong(t, id) {
			for _, r := range records(t, id) {
				e := api.Entry{LSN: 60, Rec: r}
				q := Replay(id, p, []api.Entry{e})
				if r.Kind == api.RImage {
					if made := check(t, name, id, p, e, api.OK); q != made || page.LSN(made) != 60 {
						t.Errorf("%s: Replay of an image = %x", name, q)
					}
					continue
				}
				check(t, name, id, p, e, api.ErrForm)
				if q != p {
					t.Errorf("%s: Replay of %v = %x", name, r, q)
				}
			}
		}
	}
}

func TestImages(t *testing.T) { // P9.1, P9.2
	for _, id := range []api.PageID{data(), undo()} {
		for _, image := range []api.Payload{page.Blank(id), some(t, id)} {
			for _, p := range []api.Payload{some(t, id), page.Blank(id), {}, {5: 1}} {
				e := api.Entry{LSN: 60, Rec: api.Rec{Kind: api.RImage, Page: id, Image: image}}
				q := check(t, "an image", id, p, e, api.OK)
				// But for the LSN and the sum it is the image.
				if [3]byte(q[:]) != [3]byte(image[:]) || string(q[15:]) != string(image[15:]) || page.LSN(q) != 60 || !page.Right(id, q) {
					t.Errorf("of the image %x came %x", image, q)
				}
			}
		}
		for name, image := range wrong(t, id) {
			e := api.Entry{LSN: 60, Rec: api.Rec{Kind: api.RImage, Page: id, Image: image}}
			for _, p := range []api.Payload{some(t, id), page.Blank(id), {}, {5: 1}} {
				check(t, name, id, p, e, api.ErrForm)
				if q := Replay(id, p, []api.Entry{e}); q != p {
					t.Errorf("%s: Replay = %x", name, q)
				}
			}
		}
	}
}

func TestData(t *testing.T) { // P9.1
	id := data()
	for name, d := range map[string]string{
		"nothing": "", "a byte": "\x05\x01x", "the last byte": "\x3f\x01x", "two": "\x00\x01a\x02\x02bc",
		"all": "\x00\x40" + strings.Repeat("z", 64),
	} {
		r := api.Rec{Kind: api.RData, Page: id, Ts: 7, Prev: api.Ref{Page: 9, Slot: 8}, Delta: d}
		q := check(t, name, id, some(t, id), api.Entry{LSN: 60, Rec: r}, api.OK)
		want := full()
		want.LSN, want.Ts, want.Prev = 60, 7, api.Ref{Page: 9, Slot: 8}
		want.Body, _ = laidOver(want.Body, d)
		if got, e := page.GetData(3, q); got != want || e != api.OK {
			t.Errorf("%s: %v, %d, want %v", name, got, e, want)
		}
	}
	// None of a record's fields is left as it was, also where it says 0.
	q := check(t, "noughts", id, some(t, id), api.Entry{LSN: 0, Rec: api.Rec{Kind: api.RData, Page: id}}, api.OK)
	if got, _ := page.GetData(3, q); got != (api.Data{Body: full().Body}) {
		t.Errorf("noughts: %v", got)
	}
	for name, d := range map[string]string{
		"a place alone": "\x05", "no byte": "\x05\x00", "too few": "\x05\x02x", "beyond": "\x40\x01x", "over the end": "\x3f\x02xy",
		"side by side": "\x05\x01x\x06\x01y", "back": "\x05\x01x\x00\x01y", "a rest": "\x05\x01xy", "66 bytes": strings.Repeat("\x00", 66),
	} {
		r := api.Rec{Kind: api.RData, Page: id, Ts: 7, Delta: d}
		check(t, name, id, some(t, id), api.Entry{LSN: 60, Rec: r}, api.ErrForm)
		if q := Replay(id, some(t, id), []api.Entry{{LSN: 60, Rec: r}}); q != some(t, id) {
			t.Errorf("%s: Replay = %x", name, q)
		}
	}
}

func TestAdds(t *testing.T) { // P9.1
	for _, c := range []struct {
		u    api.Undo
		slot uint8
		n    int
		want api.Errno
	}{
		{olds(), 0, 0, api.OK},
		{olds(), 0, 66, api.OK},
		{olds(), 1, 3, api.ErrForm},
		{olds(), 255, 3, api.ErrForm},
		{olds(3), 1, 3, api.OK},
		{olds(3), 0, 3, api.ErrForm},
		{olds(3), 2, 3, api.ErrForm},
		{olds(3, -1, 5), 1, 3, api.OK},
		{olds(3, -1, 5), 3, 3, api.ErrForm},
		{olds(3, -1, 5), 0, 3, api.ErrForm},
		{olds(-1, -1, 5), 0, 3, api.OK},
		{olds(-1, -1, 5), 1, 3, api.ErrForm},
		{olds(66, 66, 30), 3, 2, api.OK},
		{olds(66, 66, 30), 3, 3, api.ErrForm}, // no room
		{olds(66, 66, 30), 0, 3, api.ErrForm}, // no room, and the slot that goes with an error
		{olds(66, 66, 43), 3, 0, api.ErrForm},
		{olds(slices.Repeat([]int{0}, 14)...), 14, 0, api.OK},
		{olds(slices.Repeat([]int{0}, 15)...), 15, 0, api.ErrForm},
		{olds(slices.Repeat([]int{0}, 15)...), 0, 0, api.ErrForm},
	} {
		r := api.Rec{Kind: api.RAdd, Page: undo(), Slot: c.slot, Old: live(c.n, 77)}
		q := check(t, "an add", undo(), laid(t, 3, c.u), api.Entry{LSN: 60, Rec: r}, c.want)
		if c.want != api.OK {
			continue
		}
		want := put(c.u, int(c.slot), r.Old)
		if got, e := page.GetUndo(3, q); e != api.OK || got.LSN != 60 || !slices.Equal(got.Olds, want.Olds) {
			t.Errorf("an add to %v made %v, %d", c.u, got, e)
		}
	}
}

func TestFreesAndCuts(t *testing.T) { // P9.1
	pages := []api.Undo{olds(), olds(3), olds(3, 4), olds(3, -1, 5), olds(-1, -1, 5), olds(slices.Repeat([]int{0}, 15)...), olds(66, 66, 43)}
	for _, u := range pages {
		for at := range 256 {
			want := api.ErrForm
			if at < len(u.Olds) && u.Olds[at].Live {
				want = api.OK
			}
			free := api.Rec{Kind: api.RFree, Page: undo(), Slot: uint8(at)}
			cut := api.Rec{Kind: api.RCut, Page: undo(), Slot: uint8(at)}
			p := check(t, "a free", undo(), laid(t, 3, u), api.Entry{LSN: 60, Rec: free}, want)
			q := check(t, "a cut", undo(), laid(t, 3, u), api.Entry{LSN: 60, Rec: cut}, want)
			if want != api.OK {
				continue
			}
			if got, _ := page.GetUndo(3, p); got.LSN != 60 || !slices.Equal(got.Olds, put(u, at, api.Old{}).Olds) {
				t.Errorf("a free of %d made of %v %v", at, u, got)
			}
			o := u.Olds[at]
			o.Next = api.Ref{}
			if got, _ := page.GetUndo(3, q); got.LSN != 60 || !slices.Equal(got.Olds, put(u, at, o).Olds) {
				t.Errorf("a cut of %d made of %v %v", at, u, got)
			}
		}
	}
}

// Redo asks for no order of LSNs: the answer has the entry's, whatever it is.
func TestLSNs(t *testing.T) { // P9.1
	for _, id := range []api.PageID{data(), undo()} {
		for _, r := range records(t, id) {
			for _, lsn := range []uint64{0, 1, 49, 50, 51, 1 << 32, 0x0807060504030201, math.MaxUint64} {
				q := check(t, "an LSN", id, some(t, id), api.Entry{LSN: lsn, Rec: r}, api.OK)
				if page.LSN(q) != lsn || !page.Right(id, q) {
					t.Errorf("%v at %d: the LSN %d", r, lsn, page.LSN(q))
				}
			}
		}
	}
}

func TestReplayOfNone(t *testing.T) { // P9.2
	for _, id := range ids() {
		for _, p := range []api.Payload{some(t, id), page.Blank(id), {}, {9: 1}} {
			if Replay(id, p, nil) != p || Replay(id, p, []api.Entry{}) != p {
				t.Errorf("Replay of no entries on %v", id)
			}
		}
	}
}

// Just those above the page's LSN count, an image too.
func TestReplayByLSN(t *testing.T) { // P9.2
	for _, id := range []api.PageID{data(), undo()} {
		for _, r := range records(t, id) {
			p := some(t, id)
			for _, lsn := range []uint64{0, 1, 49, 50} {
				if q := Replay(id, p, []api.Entry{{LSN: lsn, Rec: r}}); q != p {
					t.Errorf("%v at %d on 50: %x", r, lsn, q)
				}
			}
			for _, lsn := range []uint64{51, 52, math.MaxUint64} {
				e := api.Entry{LSN: lsn, Rec: r}
				want, _ := wantRedo(id, p, e)
				if q := Replay(id, p, []api.Entry{e}); q != want || q == p {
					t.Errorf("%v at %d on 50: %x", r, lsn, q)
				}
			}
		}
		// What is no page's has no LSN, also where one stands.
		torn := some(t, id)
		torn[90] ^= 1
		image := api.Entry{LSN: 0, Rec: api.Rec{Kind: api.RImage, Page: id, Image: some(t, id)}}
		want, _ := wantRedo(id, torn, image)
		if q := Replay(id, torn, []api.Entry{image}); q != want || page.LSN(q) != 0 {
			t.Errorf("an image at 0 on a torn page: %x", q)
		}
		// The page's LSN is what the last entry has made it, not what it was, nor what the log's last one had.
		low := api.Entry{LSN: 60, Rec: records(t, id)[0]}
		high := api.Entry{LSN: 70, Rec: records(t, id)[0]}
		for _, log := range [][]api.Entry{{high, low}, {low, high, low}} {
			if q := Replay(id, some(t, id), log); page.LSN(q) != 70 {
				t.Errorf("Replay ends at %d", page.LSN(q))
			}
		}
	}
}

// Entries that are refused change nothing, not even the LSN, and the next ones are taken.
func TestReplayPassesOver(t *testing.T) { // P9.2
	id := data()
	set := func(lsn uint64, delta string) api.Entry {
		return api.Entry{LSN: lsn, Rec: api.Rec{Kind: api.RData, Page: id, Ts: uint32(lsn), Delta: delta}}
	}
	bad := api.Entry{LSN: 1000, Rec: api.Rec{Kind: api.RImage, Page: id, Image: api.Payload{7: 1}}}
	log := []api.Entry{
		set(40, "\x00\x01a"), set(60, "\x01\x01b"), set(900, "\x01"), bad, set(61, "\x02\x01c"),
		{LSN: 950, Rec: api.Rec{Kind: api.RCommit, Ts: 5}}, {LSN: 960, Rec: api.Rec{Kind: 7, Page: id}}, set(61, "\x03\x01d"), set(62, "\x04\x01e"),
	}
	want := full()
	want.LSN, want.Ts, want.Prev = 62, 62, api.Ref{}
	want.Body[1], want.Body[2], want.Body[4] = 'b', 'c', 'e'
	if q := Replay(id, page.PutData(3, full()), log); q != page.PutData(3, want) {
		got, e := page.GetData(3, q)
		t.Errorf("Replay = %v, %d", got, e)
	}
	// Without a page all is passed over up to an image that is its.
	image := api.Entry{LSN: 5, Rec: api.Rec{Kind: api.RImage, Page: id, Image: page.Blank(id)}}
	q := Replay(id, api.Payload{1}, []api.Entry{set(60, "\x01\x01b"), bad, image, set(6, "\x02\x01c")})
	if q != page.PutData(3, api.Data{LSN: 6, Ts: 6, Body: api.Body{2: 'c'}}) {
		t.Errorf("behind an image: %x", q)
	}
}

func TestReplayOfAnUndoPage(t *testing.T) { // P9.2
	id := undo()
	add := func(lsn uint64, at uint8, mark int) api.Entry {
		return api.Entry{LSN: lsn, Rec: api.Rec{Kind: api.RAdd, Page: id, Slot: at, Old: live(3, mark)}}
	}
	log := []api.Entry{
		add(1, 0, 1), add(2, 1, 2), add(3, 3, 9), add(4, 2, 3),
		{LSN: 5, Rec: api.Rec{Kind: api.RFree, Page: id, Slot: 1}},
		{LSN: 6, Rec: api.Rec{Kind: api.RFree, Page: id, Slot: 1}},
		{LSN: 7, Rec: api.Rec{Kind: api.RCut, Page: id, Slot: 1}},
		{LSN: 8, Rec: api.Rec{Kind: api.RCut, Page: id, Slot: 2}},
		add(9, 1, 4), add(9, 3, 5),
	}
	cut := live(3, 3)
	cut.Next = api.Ref{}
	want := laid(t, 3, api.Undo{LSN: 9, Olds: []api.Old{live(3, 1), live(3, 4), cut}})
	if q := Replay(id, page.Blank(id), log); q != want {
		t.Errorf("Replay = %x, want %x", q, want)
	}
}

// randomDelta is mostly a delta.
func randomDelta(r *rand.Rand) string {
	var d []byte
	for at := r.Intn(20); at < 60 && len(d) < 50; at += 6 + r.Intn(20) {
		n := 1 + r.Intn(4)
		d = append(d, byte(at), byte(n))
		for range n {
			d = append(d, byte(r.Uint32()))
		}
	}
	if r.Intn(8) == 0 {
		d = append(d, byte(r.Uint32()))
	}
	return string(d)
}

// randomRec is a record, mostly about one of two data pages and two undo pages, and one that may be.
func randomRec(r *rand.Rand) api.Rec {
	id := api.PageID{Undo: r.Intn(2) == 0, No: uint16(r.Intn(2))}
	v := api.Rec{Page: id, Slot: uint8(r.Intn(4))}
	switch k := r.Intn(20); {
	case k == 0:
		return api.Rec{Kind: api.RCommit, Ts: r.Uint32()}
	case k == 1:
		return api.Rec{Kind: uint8(r.Intn(9)), Page: id, Ts: r.Uint32(), Slot: 1}
	case k <= 3:
		image := page.Blank(id)
		switch r.Intn(3) {
		case 0:
			image[r.Intn(224)] ^= byte(r.Intn(2))
		case 1:
			image = page.Blank(api.PageID{Undo: id.Undo, No: uint16(r.Intn(2))})
		}
		return api.Rec{Kind: api.RImage, Page: id, Image: image}
	case !id.Undo:
		ref := api.Ref{Page: uint16(r.Intn(4)), Slot: uint8(r.Intn(4))}
		return api.Rec{Kind: api.RData, Page: id, Ts: r.Uint32(), Prev: ref, Delta: randomDelta(r)}
	case k <= 12:
		v.Kind, v.Old = api.RAdd, live(r.Intn(67), r.Intn(200))
	case k <= 16:
		v.Kind = api.RFree
	default:
		v.Kind = api.RCut
	}
	return v
}

// randomLog is entries whose LSNs rise, or, if wild, go as they like.
func randomLog(r *rand.Rand, n int, wild bool) []api.Entry {
	var log []api.Entry
	lsn := uint64(r.Intn(20))
	for range n {
		lsn += uint64(1 + r.Intn(5))
		e := api.Entry{LSN: lsn, Rec: randomRec(r)}
		if wild {
			e.LSN = uint64(r.Intn(5 * n))
		}
		log = append(log, e)
	}
	return log
}

// randomPayload is mostly a page's, often with an LSN amid those of a log.
func randomPayload(r *rand.Rand, id api.PageID) api.Payload {
	switch r.Intn(4) {
	case 0:
		var p api.Payload
		p[r.Intn(224)] = byte(r.Uint32())
		return p
	case 1:
		return page.Blank(id)
	}
	return wantReplay(id, page.Blank(id), randomLog(r, r.Intn(30), false))
}

// randomID is one of the pages that random records are about.
func randomID(r *rand.Rand) api.PageID {
	return api.PageID{Undo: r.Intn(2) == 0, No: uint16(r.Intn(2))}
}

func TestRedoTold(t *testing.T) { // P9.1
	r := rand.New(rand.NewSource(1))
	count := map[api.Errno]int{}
	for range 20000 {
		id := randomID(r)
		e := api.Entry{LSN: r.Uint64() >> r.Intn(64), Rec: randomRec(r)}
		p := randomPayload(r, id)
		want, err := wantRedo(id, p, e)
		check(t, "random", id, p, e, err)
		count[err]++
		if want != (api.Payload{}) && !page.Right(id, want) || t.Failed() {
			t.Fatalf("%v on %v: %x", e, id, want)
		}
	}
	for _, e := range []api.Errno{api.OK, api.ErrArg, api.ErrForm} {
		if count[e] < 1000 {
			t.Errorf("%d is answered only %d times", e, count[e])
		}
	}
}

func TestReplayTold(t *testing.T) { // P9.2
	r := rand.New(rand.NewSource(2))
	changed := 0
	for i := range 2000 {
		id := randomID(r)
		p := randomPayload(r, id)
		log := randomLog(r, r.Intn(40), i%2 == 0)
		want := wantReplay(id, p, log)
		if q := Replay(id, p, log); q != want {
			t.Fatalf("Replay(%v, %x, %v) = %x, want %x", id, p, log, q, want)
		}
		if want != p {
			changed++
		}
	}
	if changed < 500 {
		t.Errorf("only %d of the logs change a page", changed)
	}
}

func TestReplayAgain(t *testing.T) { // P9.3
	r := rand.New(rand.NewSource(3))
	for range 300 {
		id := randomID(r)
		p := randomPayload(r, id)
		log := randomLog(r, r.Intn(40), false)
		want := Replay(id, p, log)
		for k := range len(log) + 1 {
			if q := Replay(id, Replay(id, p, log[:k]), log); q != want {
				t.Fatalf("first over %d of %v: %x, want %x", k, log, q, want)
			}
			if q := Replay(id, Replay(id, p, log[:k]), log[k:]); q != want {
				t.Fatalf("over %d of %v, then the others: %x, want %x", k, log, q, want)
			}
		}
	}
}

func TestBehindAnImage(t *testing.T) { // P9.3
	r := rand.New(rand.NewSource(4))
	for range 300 {
		id := randomID(r)
		log := randomLog(r, 1+r.Intn(40), false)
		k := r.Intn(len(log))
		log[k].Rec = api.Rec{Kind: api.RImage, Page: id, Image: wantReplay(id, page.Blank(id), randomLog(r, 20, false))}
		want := Replay(id, api.Payload{}, log[k:])
		if !page.Right(id, want) {
			t.Fatalf("of %v came %x", log[k:], want)
		}
		for range 20 {
			p := randomPayload(r, id)
			if page.Right(id, p) && page.LSN(p) >= log[k].LSN {
				// It was newer: the image, and what is not above it, is passed over.
				if q := Replay(id, p, log[:k+1]); q != p {
					t.Fatalf("on a newer page: %x", q)
				}
				continue
			}
			if q := Replay(id, p, log); q != want {
				t.Fatalf("on %x: %x, want %x", p, q, want)
			}
			if q := Replay(id, p, log[k:]); q != want {
				t.Fatalf("on %x, the image first: %x, want %x", p, q, want)
			}
		}
	}
}

func TestHandedIn(t *testing.T) { // P9.2
	r := rand.New(rand.NewSource(5))
	for range 100 {
		id := randomID(r)
		room := randomLog(r, 30, false)
		kept := slices.Clone(room)
		n := r.Intn(31)
		p := randomPayload(r, id)
		want := wantReplay(id, p, kept[:n])
		if q := Replay(id, p, room[:n]); q != want || !slices.Equal(room, kept) {
			t.Fatalf("the log %v became %v", kept, room)
		}
	}
}
