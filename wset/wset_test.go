package wset

import (
	"math"
	"math/rand"
	"slices"
	"strings"
	"testing"

	"varve/api"
	"varve/delta"
)

// note is a write that was taken.
type note struct {
	page uint16
	base api.Body
	off  int
	b    string
}

// notes is a set told anew: all that was written, one behind the other.
type notes []note

func (n notes) pages() []uint16 {
	var list []uint16
	for _, x := range n {
		list = append(list, x.page)
	}
	slices.Sort(list)
	return slices.Compact(list)
}

// base is what a page came into the set with.
func (n notes) base(page uint16) (api.Body, bool) {
	for _, x := range n {
		if x.page == page {
			return x.base, true
		}
	}
	return api.Body{}, false
}

// read is for each place what was written there last.
func (n notes) read(page uint16) (api.Body, bool) {
	body, ok := n.base(page)
	for _, x := range n {
		for i := range len(x.b) {
			if x.page == page {
				body[x.off+i] = x.b[i]
			}
		}
	}
	return body, ok
}

func (n *notes) write(page uint16, base api.Body, off int, b string) api.Errno {
	inside := false
	for at := range 65 {
		inside = inside || at == off && at+len(b) <= 64
	}
	list := n.pages()
	switch {
	case !inside:
		return api.ErrArg
	case !slices.Contains(list, page) && len(list) == 4:
		return api.ErrMany
	}
	*n = append(*n, note{page, base, off, b})
	return api.OK
}

// same holds all that a set tells against notes, of the pages that are in it and of some that aren't.
func same(t *testing.T, name string, s *Set, n notes) {
	t.Helper()
	list := n.pages()
	if got := s.Pages(); !slices.Equal(got, list) {
		t.Fatalf("%s: Pages = %v, want %v", name, got, list)
	}
	for _, page := range append(list, 0, 1, 5, 9, 255, 256, 1<<15, math.MaxUint16) {
		base, _ := n.base(page)
		want, is := n.read(page)
		if got, ok := s.Read(page); got != want || ok != is {
			t.Fatalf("%s: Read(%d) = %v, %v, want %v, %v", name, page, got, ok, want, is)
		}
		d := s.Delta(page)
		if d != delta.Make(base, want) || !is && d != "" {
			t.Fatalf("%s: Delta(%d) = %x", name, page, d)
		}
		if made, e := delta.Apply(base, d); made != want || e != api.OK {
			t.Fatalf("%s: Delta(%d) makes %v of the base, %v", name, page, made, e)
		}
	}
}

// pair is a set and notes of the same writes.
type pair struct {
	set   *Set
	notes notes
}

// write writes in both, and holds what is answered, and all that is told behind it, against each other and a wanted error.
func (p *pair) write(t *testing.T, page uint16, base api.Body, off int, b string, want api.Errno) {
	t.Helper()
	e := p.set.Write(page, base, off, b)
	if err := p.notes.write(page, base, off, b); e != want || e != err {
		t.Fatalf("Write(%d, .., %d, %q) = %v, want %v (%v)", page, off, b, e, want, err)
	}
	same(t, "behind a Write", p.set, p.notes)
}

// full is a set of four pages, whose bodies are letters.
func full(t *testing.T, pages ...uint16) *pair {
	t.Helper()
	p := &pair{set: New()}
	for i, page := range pages {
		p.write(t, page, filled(byte('a'+i)), i, "X", api.OK)
	}
	return p
}

// filled is a body of one byte, again and again.
func filled(b byte) api.Body {
	var body api.Body
	for i := range body {
		body[i] = b
	}
	return body
}

// rising is a body of which no two bytes are the same.
func rising() api.Body {
	var body api.Body
	for i := range body {
		body[i] = byte(i + 1)
	}
	return body
}

func TestExamples(t *testing.T) { // P16.1, P16.2, P16.3
	s := New()
	if e := s.Write(3, api.Body{}, 62, "xyz"); e != api.ErrArg || len(s.Pages()) != 0 {
		t.Errorf("three bytes from 62 on: %v, and then %v", e, s.Pages())
	}
	if e := s.Write(3, api.Body{}, 62, "xy"); e != api.OK || s.Delta(3) != "\x3e\x02xy" {
		t.Errorf("two bytes from 62 on: %v, and then %x", e, s.Delta(3))
	}
	if e := s.Write(3, filled(9), 0, ""); e != api.OK || s.Delta(3) != "\x3e\x02xy" {
		t.Errorf("none: %v, and then %x", e, s.Delta(3))
	}
	var want api.Body
	want[62], want[63] = 'x', 'y'
	if body, ok := s.Read(3); body != want || !ok {
		t.Errorf("Read = %v, %v", body, ok)
	}
	for _, page := range []uint16{7, 1, 5} {
		if e := s.Write(page, api.Body{}, 0, "a"); e != api.OK {
			t.Errorf("page %d: %v", page, e)
		}
	}
	if e := s.Write(2, api.Body{}, 0, "a"); e != api.ErrMany {
		t.Errorf("a fifth page: %v", e)
	}
	if e := s.Write(5, api.Body{}, 1, "b"); e != api.OK || s.Delta(5) != "\x00\x02ab" {
		t.Errorf("one of the four: %v, and then %x", e, s.Delta(5))
	}
	if list := s.Pages(); !slices.Equal(list, []uint16{1, 3, 5, 7}) {
		t.Errorf("Pages = %v", list)
	}
}

func TestNil(t *testing.T) { // P16.1
	var s *Set
	for _, page := range []uint16{0, 1, math.MaxUint16} {
		for _, off := range []int{0, 1, 64, 65, -1, math.MaxInt, math.MinInt} {
			for _, b := range []string{"", "a", strings.Repeat("b", 65)} {
				if e := s.Write(page, filled(1), off, b); e != api.ErrArg {
					t.Errorf("Write = %v", e)
				}
			}
		}
		if body, ok := s.Read(page); body != (api.Body{}) || ok {
			t.Errorf("Read = %v, %v", body, ok)
		}
		if s.Delta(page) != "" || len(s.Pages()) != 0 {
			t.Errorf("Delta = %x, Pages = %v", s.Delta(page), s.Pages())
		}
	}
}

func TestNew(t *testing.T) { // P16.1, P16.2, P16.3
	s := New()
	if s == nil {
		t.Fatal("New is nil")
	}
	same(t, "a new one", s, nil)
}

func TestOffsets(t *testing.T) { // P16.1: of a page that is in the set, and one that isn't
	for _, inside := range []bool{false, true} {
		for _, off := range []int{0, 1, 31, 62, 63, 64} {
			room := 64 - off
			for _, n := range []int{0, 1, room - 1, room, room + 1, room + 2, 64, 65, 1000} {
				if n < 0 {
					continue
				}
				p := &pair{set: New()}
				if inside {
					p.write(t, 8, filled('q'), 3, "ab", api.OK)
				}
				want := api.OK
				if n > room {
					want = api.ErrArg
				}
				p.write(t, 8, rising(), off, strings.Repeat("Z", n), want)
			}
		}
		for _, off := range []int{-1, -2, -64, 65, 66, 128, math.MinInt, math.MinInt + 1, math.MaxInt, math.MaxInt - 64, 1 << 32, -1 << 32} {
			for _, b := range []string{"", "a", strings.Repeat("b", 64), strings.Repeat("c", 65)} {
				p := &pair{set: New()}
				if inside {
					p.write(t, 8, filled('q'), 3, "ab", api.OK)
				}
				p.write(t, 8, rising(), off, b, api.ErrArg)
			}
		}
	}
}

func TestWriteNothing(t *testing.T) { // P16.1, P16.3: the page is in the set all the same
	for _, off := range []int{0, 63, 64} {
		s := New()
		if e := s.Write(6, rising(), off, ""); e != api.OK {
			t.Errorf("none, at %d: %v", off, e)
		}
		if body, ok := s.Read(6); body != rising() || !ok || s.Delta(6) != "" || !slices.Equal(s.Pages(), []uint16{6}) {
			t.Errorf("none, at %d: %v, %v, %x, %v", off, body, ok, s.Delta(6), s.Pages())
		}
	}
}

func TestBaseCountsOnce(t *testing.T) { // P16.1, P16.3
	p := &pair{set: New()}
	p.write(t, 4, rising(), 10, "ab", api.OK)
	for _, base := range []api.Body{{}, filled(255), rising()} {
		p.write(t, 4, base, 20, "cd", api.OK)
		p.write(t, 4, base, 64, "", api.OK)
	}
	if d := p.set.Delta(4); d != "\x0a\x02ab\x14\x02cd" {
		t.Errorf("Delta = %x", d)
	}
	q := &pair{set: New()}
	q.write(t, 4, filled(7), 65, "", api.ErrArg) // what was refused is no base
	q.write(t, 4, rising(), 0, "\x01", api.OK)
	if d := q.set.Delta(4); d != "" {
		t.Errorf("Delta = %x", d)
	}
}

func TestOverwrite(t *testing.T) { // P16.1, P16.3
	p := &pair{set: New()}
	p.write(t, 1, rising(), 0, strings.Repeat("A", 64), api.OK)
	p.write(t, 1, rising(), 5, "BBB", api.OK)
	p.write(t, 1, rising(), 6, "C", api.OK)
	p.write(t, 1, rising(), 63, "D", api.OK)
	want := strings.Repeat("A", 5) + "BCB" + strings.Repeat("A", 55) + "D"
	if body, ok := p.set.Read(1); string(body[:]) != want || !ok || p.set.Delta(1) != "\x00\x40"+want {
		t.Errorf("Read = %q, Delta = %x", body[:], p.set.Delta(1))
	}
}

func TestChangedBack(t *testing.T) { // P16.3
	base := rising()
	p := &pair{set: New()}
	p.write(t, 2, base, 9, "abc", api.OK)
	p.write(t, 2, filled('z'), 9, string(base[9:12]), api.OK)
	if d := p.set.Delta(2); d != "" {
		t.Errorf("changed back: Delta = %x", d)
	}
	p.write(t, 2, base, 0, string(base[:]), api.OK)
	if d := p.set.Delta(2); d != "" {
		t.Errorf("all written as it is: Delta = %x", d)
	}
	p.write(t, 2, base, 9, "a", api.OK)
	if d := p.set.Delta(2); d != "\x09\x01a" {
		t.Errorf("changed again: Delta = %x", d)
	}
	if !slices.Equal(p.set.Pages(), []uint16{2}) {
		t.Errorf("Pages = %v", p.set.Pages())
	}
}

func TestFifthPage(t *testing.T) { // P16.1, P16.4
	p := full(t, 9, 0, math.MaxUint16, 5)
	if list := p.set.Pages(); !slices.Equal(list, []uint16{0, 5, 9, math.MaxUint16}) {
		t.Errorf("Pages = %v", list)
	}
	for _, page := range []uint16{1, 4, 6, 256, math.MaxUint16 - 1} {
		p.write(t, page, rising(), 0, "a", api.ErrMany)
		p.write(t, page, rising(), 0, "", api.ErrMany)
		p.write(t, page, rising(), 64, "", api.ErrMany)
		p.write(t, page, rising(), 0, strings.Repeat("a", 64), api.ErrMany)
		p.write(t, page, rising(), 0, strings.Repeat("a", 65), api.ErrArg) // what is refused anyway comes first
		p.write(t, page, rising(), 64, "a", api.ErrArg)
		p.write(t, page, rising(), 65, "", api.ErrArg)
		p.write(t, page, rising(), -1, "a", api.ErrArg)
		p.write(t, page, rising(), math.MinInt, "", api.ErrArg)
		p.write(t, page, rising(), math.MaxInt, "", api.ErrArg)
	}
	for _, page := range []uint16{9, 0, math.MaxUint16, 5} {
		p.write(t, page, rising(), 40, "more", api.OK)
		p.write(t, page, rising(), 64, "a", api.ErrArg)
	}
}

func TestFourPages(t *testing.T) { // P16.1, P16.2: a fourth one is taken, in any order, and pages written before count once
	for _, order := range [][]uint16{{0, 1, 2, 3}, {3, 2, 1, 0}, {2, 0, 3, 1}, {1, 3, 0, 2}} {
		p := &pair{set: New()}
		for i, page := range order {
			for range 3 {
				p.write(t, page, filled(byte(i)), i, "x", api.OK)
			}
		}
		if list := p.set.Pages(); !slices.Equal(list, []uint16{0, 1, 2, 3}) {
			t.Errorf("Pages = %v", list)
		}
		p.write(t, 4, filled(9), 0, "x", api.ErrMany)
	}
}

func TestPagesApart(t *testing.T) { // P16.4: what is written of one page changes no other one
	p := full(t, 0, 256, 1, 257)
	before := map[uint16]api.Body{}
	for _, page := range p.set.Pages() {
		before[page], _ = p.set.Read(page)
	}
	p.write(t, 256, filled(0), 30, "only here", api.OK)
	for page, was := range before {
		if now, _ := p.set.Read(page); (now == was) != (page != 256) {
			t.Errorf("page %d: from %q to %q", page, was[:], now[:])
		}
	}
}

func TestCopies(t *testing.T) { // P16.1, P16.2, rule 4
	s := New()
	base := rising()
	s.Write(3, base, 5, "hello")
	if base != rising() {
		t.Error("the base that was handed in is changed")
	}
	base[0], base[5] = 99, 99
	body, _ := s.Read(3)
	if body[0] != 1 || body[5] != 'h' || s.Delta(3) != "\x05\x05hello" {
		t.Errorf("a change of what was handed in: %v, %x", body, s.Delta(3))
	}
	body[7] = 0
	if again, _ := s.Read(3); again[7] != 'l' || s.Delta(3) != "\x05\x05hello" {
		t.Errorf("a change of what was answered: %v, %x", again, s.Delta(3))
	}
	s.Write(1, base, 0, "")
	list, other := s.Pages(), s.Pages()
	list[0], list[1] = 8, 9
	_ = append(list[:1], 7, 7)
	if !slices.Equal(other, []uint16{1, 3}) || !slices.Equal(s.Pages(), []uint16{1, 3}) {
		t.Errorf("a change of the pages: %v, %v", other, s.Pages())
	}
	s.Write(2, base, 0, "")
	if !slices.Equal(other, []uint16{1, 3}) {
		t.Errorf("a Write changes what was answered: %v", other)
	}
}

func TestBytes(t *testing.T) { // P16.1: any bytes, told as bytes
	p := &pair{set: New()}
	p.write(t, 0, rising(), 0, "\x00\xff\xfe", api.OK)
	p.write(t, 0, rising(), 10, "äß", api.OK)
	p.write(t, 0, rising(), 61, "€", api.OK)
	p.write(t, 0, rising(), 62, "€", api.ErrArg)
	if body, _ := p.set.Read(0); string(body[61:]) != "€" || string(body[10:14]) != "äß" || body[0] != 0 || body[1] != 255 {
		t.Errorf("Read = %v", body)
	}
}

// someBody is one of a few bodies that have much in common.
func someBody(r *rand.Rand) api.Body {
	body := []api.Body{{}, rising(), filled('a')}[r.Intn(3)]
	for range r.Intn(4) {
		body[r.Intn(64)] = byte(r.Intn(3)) + 'a'
	}
	return body
}

func TestScripts(t *testing.T) { // P16.1 to P16.4
	r := rand.New(rand.NewSource(16))
	for range 150 {
		p := &pair{set: New()}
		for range 60 {
			page := []uint16{0, 1, 2, 3, 256, math.MaxUint16}[r.Intn(6)]
			off := []int{r.Intn(65), r.Intn(65), r.Intn(65), 0, 63, 64, 65, -1, r.Int(), -r.Int()}[r.Intn(10)]
			b := make([]byte, []int{0, 1, r.Intn(8), r.Intn(8), r.Intn(70), max(0, min(64, 64-off))}[r.Intn(6)])
			for i := range b {
				b[i] = byte(r.Intn(3)) + 'a'
			}
			base := someBody(r)
			e := p.set.Write(page, base, off, string(b))
			if err := p.notes.write(page, base, off, string(b)); e != err {
				t.Fatalf("Write(%d, .., %d, %q) = %v, want %v", page, off, b, e, err)
			}
			same(t, "a script", p.set, p.notes)
		}
	}
}

func TestAlone(t *testing.T) { // rule 6: sets know nothing of each other
	a, b := full(t, 1, 2, 3, 4), &pair{set: New()}
	same(t, "another one", b.set, nil)
	b.write(t, 5, rising(), 0, "b", api.OK)
	b.write(t, 1, rising(), 0, "b", api.OK)
	same(t, "the one", a.set, a.notes)
}
