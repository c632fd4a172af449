package page

import (
	"encoding/binary"
	"hash/crc32"
	"math"
	"math/rand"
	"slices"
	"strings"
	"testing"

	"varve/api"
)

// The helpers here tell the chapter's words by other means than the package does.

// numbers are pages' numbers, those of the edges first.
func numbers() []uint16 {
	return []uint16{0, 65535, 1, 2, 255, 256, 258, 513, 32768, 65534}
}

// resum is a payload with the sum that it must have.
func resum(p api.Payload) api.Payload {
	clear(p[3:7])
	binary.LittleEndian.PutUint32(p[3:7], crc32.ChecksumIEEE(p[:]))
	return p
}

// begun is the bytes of a payload ahead of what only one kind has, without a sum.
func begun(kind byte, no uint16, lsn uint64) []byte {
	b := []byte{kind, byte(no % 256), byte(no / 256), 0, 0, 0, 0}
	return binary.LittleEndian.AppendUint64(b, lsn)
}

// padded is a payload of these bytes and noughts, with its sum.
func padded(b []byte) api.Payload {
	var p api.Payload
	if copy(p[:], b) != len(b) {
		panic("more than a payload")
	}
	return resum(p)
}

// laidData is the payload of a data page.
func laidData(no uint16, d api.Data) api.Payload {
	b := begun(1, no, d.LSN)
	b = binary.LittleEndian.AppendUint32(b, d.Ts)
	b = binary.LittleEndian.AppendUint16(b, d.Prev.Page)
	b = append(b, d.Prev.Slot)
	return padded(append(b, d.Body[:]...))
}

// laidOlds is the bytes of an undo page up to its end, with a count of its own.
func laidOlds(no uint16, count int, u api.Undo) []byte {
	b := append(begun(2, no, u.LSN), byte(count))
	for _, o := range u.Olds {
		if !o.Live {
			b = append(b, 0)
			continue
		}
		b = binary.LittleEndian.AppendUint16(append(b, 1), o.Page)
		b = binary.LittleEndian.AppendUint32(b, o.Ts)
		b = binary.LittleEndian.AppendUint16(b, o.Next.Page)
		b = append(b, o.Next.Slot, byte(len(o.Delta)))
		b = append(b, o.Delta...)
	}
	return b
}

// laidUndo is the payload of an undo page.
func laidUndo(no uint16, u api.Undo) api.Payload {
	return padded(laidOlds(no, len(u.Olds), u))
}

// live is a Live Old whose Delta has n bytes, none of them 0.
func live(n int) api.Old {
	o := api.Old{Live: true, Page: 0x0102, Ts: 0x03040506, Next: api.Ref{Page: 0x0708, Slot: 9}}
	o.Delta = strings.Repeat("\xa1\xb2\xc3\xd4\xe5", n/5+1)[:n]
	return o
}

// olds is an undo page of Live Olds with such Deltas; -1 stands for one that isn't Live.
func olds(lens ...int) api.Undo {
	u := api.Undo{LSN: 0x1112131415161718}
	for _, n := range lens {
		if n < 0 {
			u.Olds = append(u.Olds, api.Old{})
		} else {
			u.Olds = append(u.Olds, live(n))
		}
	}
	return u
}

func repeat(n, times int) []int { return slices.Repeat([]int{n}, times) }

func same(u, v api.Undo) bool { return u.LSN == v.LSN && slices.Equal(u.Olds, v.Olds) }

func empty(u api.Undo) bool { return u.LSN == 0 && len(u.Olds) == 0 }

func randomOld(r *rand.Rand, n int) api.Old {
	delta := make([]byte, n)
	r.Read(delta)
	next := api.Ref{Page: uint16(r.Uint32()), Slot: uint8(r.Uint32())}
	return api.Old{Live: true, Page: uint16(r.Uint32()), Ts: r.Uint32(), Next: next, Delta: string(delta)}
}

func randomData(r *rand.Rand) api.Data {
	d := api.Data{LSN: r.Uint64(), Ts: r.Uint32()}
	d.Prev = api.Ref{Page: uint16(r.Uint32()), Slot: uint8(r.Uint32())}
	r.Read(d.Body[:])
	return d
}

// randomUndo is an undo page that may be, with what is not Live among it, often filled to the end.
func randomUndo(r *rand.Rand) api.Undo {
	u := api.Undo{LSN: r.Uint64() >> r.Intn(64)}
	room := 224 - 16
	longest := []int{0, 5, 20, 66}[r.Intn(4)]
	for n := r.Intn(16); n > 0; n-- {
		dead := 0
		for len(u.Olds)+dead < 14 && r.Intn(3) == 0 {
			dead++
		}
		left := room - dead - 11
		if left < 0 {
			break
		}
		o := randomOld(r, min(r.Intn(longest+1), left))
		u.Olds = append(u.Olds, make([]api.Old, dead)...)
		u.Olds = append(u.Olds, o)
		room = left - len(o.Delta)
		if len(u.Olds) == 15 {
			break
		}
	}
	return u
}

// datas are data pages of the edges, and random ones.
func datas() []api.Data {
	var full api.Body
	for i := range full {
		full[i] = 255
	}
	list := []api.Data{
		{},
		{LSN: 1}, {LSN: math.MaxUint64}, {LSN: 0x0807060504030201},
		{Ts: 7}, {Ts: math.MaxUint32}, {Ts: 0x04030201},
		{Prev: api.Ref{Page: 1}}, {Prev: api.Ref{Page: math.MaxUint16}}, {Prev: api.Ref{Page: 0x0201}},
		{Prev: api.Ref{Slot: 1}}, {Prev: api.Ref{Slot: 14}}, {Prev: api.Ref{Slot: math.MaxUint8}},
		{Body: full},
		{Body: api.Body{0: 1}}, {Body: api.Body{63: 5}},
		{LSN: math.MaxUint64, Ts: math.MaxUint32, Prev: api.Ref{Page: math.MaxUint16, Slot: math.MaxUint8}, Body: full},
	}
	r := rand.New(rand.NewSource(1))
	for range 200 {
		list = append(list, randomData(r))
	}
	return list
}

// undos are undo pages that may be: those of the edges, and random ones.
func undos() []api.Undo {
	greatest := api.Old{Live: true, Page: math.MaxUint16, Ts: math.MaxUint32, Delta: "\xff"}
	greatest.Next = api.Ref{Page: math.MaxUint16, Slot: math.MaxUint8}
	list := []api.Undo{
		{}, {Olds: []api.Old{}}, {LSN: 1}, {LSN: math.MaxUint64}, {LSN: 0x0807060504030201},
		{Olds: []api.Old{{Live: true}}},
		{Olds: []api.Old{{Live: true, Next: api.Ref{Page: 1}}}},
		{Olds: []api.Old{{Live: true, Next: api.Ref{Slot: 1}}}},
		{Olds: []api.Old{{Live: true, Page: 1}}},
		{Olds: []api.Old{{Live: true, Ts: 1}}},
		{Olds: []api.Old{{Live: true, Delta: "\x00\x00\x00"}}}, // ends with noughts that are its own
		{LSN: math.MaxUint64, Olds: []api.Old{greatest}},
		olds(0), olds(1), olds(65), olds(66), olds(0, 66), olds(66, 0), olds(66, 66),
		olds(-1, 66), olds(-1, -1, 3), olds(4, -1, 5),
		olds(repeat(0, 15)...), olds(repeat(2, 15)...),
		olds(append(repeat(-1, 14), 66)...),
		olds(66, 66, 43), // to the last byte
		olds(66, 66, -1, 42),
		olds(append(repeat(2, 14), 15)...),
		olds(append(repeat(-1, 12), 66, 63, 34)...),
	}
	r := rand.New(rand.NewSource(2))
	for range 400 {
		list = append(list, randomUndo(r))
	}
	return list
}

// impossible are undo pages that may not be, each of them for one cause.
func impossible() map[string]api.Undo {
	dead := func(o api.Old) api.Undo { return api.Undo{Olds: []api.Old{o, {Live: true}}} }
	return map[string]api.Undo{
		"16 Olds":                      olds(repeat(0, 16)...),
		"16 Olds, one Live":            olds(append(repeat(-1, 15), 0)...),
		"300 Olds, one Live":           olds(append(repeat(-1, 299), 0)...),
		"the only Old isn't Live":      olds(-1),
		"the last Old isn't Live":      olds(3, 4, -1),
		"15 Olds, the last isn't Live": olds(append(repeat(0, 14), -1)...),
		"a Page without Live":          dead(api.Old{Page: 1}),
		"a Ts without Live":            dead(api.Old{Ts: 1}),
		"a Next's Page without Live":   dead(api.Old{Next: api.Ref{Page: 1}}),
		"a Next's Slot without Live":   dead(api.Old{Next: api.Ref{Slot: 1}}),
		"a Delta without Live":         dead(api.Old{Delta: "\x00"}),
		"a long Delta without Live":    dead(api.Old{Delta: strings.Repeat("x", 67)}),
		"a Delta of 67":                olds(67),
		"a Delta of 67 and others":     olds(3, 67, 5),
		"a Delta of 256":               olds(256),
		"a Delta of 70000":             olds(70000),
		"one byte beyond":              olds(66, 66, 44),
		"one byte beyond by a dead":    olds(66, 66, -1, 43),
		"one byte beyond with 15":      olds(append(repeat(2, 14), 16)...),
		"far beyond":                   olds(66, 66, 66, 66),
	}
}

func TestExamples(t *testing.T) { // P6.1, P6.2, P6.3, P6.4
	p := Blank(api.PageID{Undo: true, No: 2})
	if string(p[:3]) != "\x02\x02\x00" {
		t.Errorf("a blank undo page begins with %x", p[:3])
	}
	for i, b := range p[7:] {
		if b != 0 {
			t.Errorf("a blank undo page's byte %d is %d", 7+i, b)
		}
	}
	if p := PutData(1, api.Data{Ts: 7}); p[15] != 7 {
		t.Errorf("the byte 15 is %d", p[15])
	}
	if u := olds(66, 66); Size(u) != 170 || !May(u) {
		t.Errorf("two of 66: Size %d, May %v", Size(u), May(u))
	}
	if u := olds(66, 66, 44); Size(u) != 225 || May(u) {
		t.Errorf("66, 66, 44: Size %d, May %v", Size(u), May(u))
	}
	if u := olds(66, 66, 43); Size(u) != 224 || !May(u) {
		t.Errorf("66, 66, 43: Size %d, May %v", Size(u), May(u))
	}
	if May(olds(3, -1)) {
		t.Error("the last one isn't Live")
	}
}

func TestLSN(t *testing.T) { // P6.1
	var p api.Payload
	for i := range p {
		p[i] = byte(i)
	}
	if got := LSN(p); got != 0x0e0d0c0b0a090807 {
		t.Errorf("LSN = %x", got)
	}
	if got := LSN(api.Payload{}); got != 0 {
		t.Errorf("LSN of noughts = %d", got)
	}
	for i := range p {
		var p api.Payload
		p[i] = 255
		want := uint64(0)
		if i >= 7 && i <= 14 {
			want = 255 << (8 * (i - 7))
		}
		if got := LSN(p); got != want {
			t.Errorf("LSN with the byte %d = %x, want %x", i, got, want)
		}
	}
	for _, d := range datas() {
		if got := LSN(PutData(3, d)); got != d.LSN {
			t.Errorf("LSN = %d, want %d", got, d.LSN)
		}
	}
	for _, u := range undos() {
		if p, _ := PutUndo(3, u); LSN(p) != u.LSN {
			t.Errorf("LSN = %d, want %d", LSN(p), u.LSN)
		}
	}
}

func TestDataThereAndBack(t *testing.T) { // P6.1, P6.4, P6.5
	for _, d := range datas() {
		for _, no := range numbers() {
			p := PutData(no, d)
			if p != laidData(no, d) {
				t.Fatalf("PutData(%d, %v) = %x", no, d, p)
			}
			if got, e := GetData(no, p); got != d || e != api.OK {
				t.Fatalf("GetData(%d, %x) = %v, %d, want %v", no, p, got, e, d)
			}
			if !Right(api.PageID{No: no}, p) {
				t.Fatalf("%x isn't the data page %d", p, no)
			}
			if u, e := GetUndo(no, p); !empty(u) || e != api.ErrForm || Right(api.PageID{Undo: true, No: no}, p) {
				t.Fatalf("GetUndo of a data page = %v, %d", u, e)
			}
			for _, other := range numbers() {
				got, e := GetData(other, p)
				if other != no && (got != api.Data{} || e != api.ErrForm || Right(api.PageID{No: other}, p)) {
					t.Fatalf("the page %d is the page %d too", no, other)
				}
			}
		}
	}
}

func TestUndoThereAndBack(t *testing.T) { // P6.2, P6.3, P6.4, P6.5
	for _, u := range undos() {
		if !May(u) {
			t.Fatalf("May(%v) is false", u)
		}
		for _, no := range numbers() {
			p, e := PutUndo(no, u)
			if p != laidUndo(no, u) || e != api.OK {
				t.Fatalf("PutUndo(%d, %v) = %x, %d", no, u, p, e)
			}
			if got, e := GetUndo(no, p); !same(got, u) || e != api.OK {
				t.Fatalf("GetUndo(%d, %x) = %v, %d, want %v", no, p, got, e, u)
			}
			if !Right(api.PageID{Undo: true, No: no}, p) {
				t.Fatalf("%x isn't the undo page %d", p, no)
			}
			if d, e := GetData(no, p); d != (api.Data{}) || e != api.ErrForm || Right(api.PageID{No: no}, p) {
				t.Fatalf("GetData of an undo page = %v, %d", d, e)
			}
			for _, other := range numbers() {
				got, e := GetUndo(other, p)
				if other != no && (!empty(got) || e != api.ErrForm || Right(api.PageID{Undo: true, No: other}, p)) {
					t.Fatalf("the page %d is the page %d too", no, other)
				}
			}
		}
	}
}

func TestUndoThatMayNotBe(t *testing.T) { // P6.2, P6.3
	for name, u := range impossible() {
		if May(u) {
			t.Errorf("%s: it may be", name)
		}
		for _, no := range numbers() {
			if p, e := PutUndo(no, u); p != (api.Payload{}) || e != api.ErrArg {
				t.Errorf("%s: PutUndo = %x, %d", name, p, e)
			}
		}
	}
}

func TestSize(t *testing.T) { // P6.2
	for _, c := range []struct {
		u    api.Undo
		want int
	}{
		{api.Undo{}, 16},
		{api.Undo{LSN: math.MaxUint64}, 16},
		{olds(0), 27},
		{olds(66), 93},
		{olds(-1, 66), 94},
		{olds(66, 66, 43), 224},
		// These may not be.
		{olds(-1), 17},
		{olds(3, -1, -1), 32},
		{olds(67), 94},
		{olds(70000), 70027},
		{olds(repeat(0, 16)...), 192},
		{olds(repeat(-1, 300)...), 316},
		{olds(repeat(66, 300)...), 16 + 300*77},
		{api.Undo{Olds: []api.Old{{Delta: "abc"}}}, 17},
		{api.Undo{Olds: []api.Old{{Page: 1, Ts: 2, Next: api.Ref{Page: 3, Slot: 4}, Delta: strings.Repeat("x", 500)}, live(1)}}, 29},
	} {
		if got := Size(c.u); got != c.want {
			t.Errorf("Size(%v) = %d, want %d", c.u, got, c.want)
		}
	}
	for _, u := range undos() {
		if want := len(laidOlds(1, len(u.Olds), u)); Size(u) != want {
			t.Errorf("Size(%v) = %d, want %d", u, Size(u), want)
		}
	}
}

// May and PutUndo agree with the words of the chapter on pages around the edges.
func TestMayAroundTheEdges(t *testing.T) { // P6.2, P6.3
	r := rand.New(rand.NewSource(3))
	yes := 0
	for range 20000 {
		u := aroundTheEdges(r)
		want := wantMay(u)
		if want {
			yes++
		}
		p, e := PutUndo(9, u)
		if May(u) != want || (e == api.OK) != want || !want && (e != api.ErrArg || p != api.Payload{}) {
			t.Fatalf("May(%v) = %v, PutUndo %d, want %v", u, May(u), e, want)
		}
	}
	if yes < 2000 || yes > 18000 {
		t.Errorf("%d of 20000 may be: not both kinds were asked for", yes)
	}
}

// aroundTheEdges is an undo page that may be, or just may not.
func aroundTheEdges(r *rand.Rand) api.Undo {
	u := randomUndo(r)
	switch r.Intn(4) {
	case 0:
		u.Olds = append(u.Olds, live(r.Intn(70)))
	case 1:
		u.Olds = append(u.Olds, api.Old{})
	case 2:
		if len(u.Olds) > 0 {
			u.Olds[r.Intn(len(u.Olds))].Live = r.Intn(2) == 0
		}
	case 3:
		if len(u.Olds) > 0 {
			u.Olds[r.Intn(len(u.Olds))].Delta = strings.Repeat("d", r.Intn(70))
		}
	}
	return u
}

// wantMay is what the chapter says of an undo page, word by word.
func wantMay(u api.Undo) bool {
	ok := len(u.Olds) <= 15
	size := 16
	for i, o := range u.Olds {
		last := i == len(u.Olds)-1
		zero := o.Page == 0 && o.Ts == 0 && o.Next.Page == 0 && o.Next.Slot == 0 && o.Delta == ""
		ok = ok && (o.Live || zero && !last) && len(o.Delta) <= 66
		size++
		if o.Live {
			size += 2 + 4 + 2 + 1 + 1 + len(o.Delta)
		}
	}
	return ok && size <= 224
}

func TestDataRefused(t *testing.T) { // P6.1, P6.4
	r := rand.New(rand.NewSource(4))
	refused := func(name string, no uint16, p api.Payload) {
		t.Helper()
		if d, e := GetData(no, p); d != (api.Data{}) || e != api.ErrForm || Right(api.PageID{No: no}, p) {
			t.Errorf("%s: GetData = %v, %d", name, d, e)
		}
	}
	refused("noughts", 0, api.Payload{})
	refused("noughts", 65535, api.Payload{})
	refused("noughts with a sum", 0, resum(api.Payload{}))
	for _, d := range []api.Data{{}, {Ts: 7}, randomData(r)} {
		whole := laidData(4, d)
		for kind := range 256 {
			p := whole
			p[0] = byte(kind)
			if kind != 1 {
				refused("another kind", 4, p)
				refused("another kind, with its sum", 4, resum(p))
			}
		}
		for i := 86; i < 224; i++ {
			p := whole
			p[i] = byte(1 + r.Intn(255))
			refused("a byte behind the end", 4, p)
			refused("a byte behind the end, with its sum", 4, resum(p))
		}
		for i := 3; i < 7; i++ {
			p := whole
			p[i] ^= byte(1 + r.Intn(255))
			refused("a wrong sum", 4, p)
			p = whole
			p[i] ^= 128
			refused("a wrong sum", 4, p)
		}
		// The sum is over noughts in its place, not over itself.
		p := whole
		binary.LittleEndian.PutUint32(p[3:7], crc32.ChecksumIEEE(whole[:]))
		refused("a sum of the sum", 4, p)
		binary.LittleEndian.PutUint32(p[3:7], crc32.ChecksumIEEE(whole[7:]))
		refused("a sum of what is behind it", 4, p)
		binary.BigEndian.PutUint32(p[3:7], binary.LittleEndian.Uint32(whole[3:7]))
		refused("the highest byte first", 4, p)
	}
}

// forged are payloads with right sums, each with one fault, that are no undo page 4's.
func forged() map[string]api.Payload {
	at := func(u api.Undo, i int, b byte) api.Payload {
		p := laidUndo(4, u)
		p[i] = b
		return resum(p)
	}
	counted := func(count int, u api.Undo) api.Payload { return padded(laidOlds(4, count, u)) }
	// cut is the beginning of what would be longer than a payload.
	cut := func(count int, u api.Undo) api.Payload { return padded(laidOlds(4, count, u)[:224]) }
	full := olds(66, 66, 43)
	return map[string]api.Payload{
		"noughts":                         resum(api.Payload{}),
		"no kind":                         at(olds(3), 0, 0),
		"a third kind":                    at(olds(3), 0, 3),
		"a data page":                     laidData(4, api.Data{Ts: 7}),
		"another number":                  at(olds(3), 1, 5),
		"another number's high byte":      at(olds(3), 2, 1),
		"a byte behind no Old":            at(olds(), 16, 1),
		"the last byte behind no Old":     at(olds(), 223, 1),
		"a byte behind an Old":            at(olds(3), 30, 1),
		"the last byte behind an Old":     at(olds(3), 223, 255),
		"a byte behind 15 Olds":           at(olds(repeat(0, 15)...), 181, 1),
		"a count too great":               counted(2, olds(3)),
		"a count too small":               counted(1, olds(3, 4)),
		"a count of none with one":        counted(0, olds(3)),
		"a count of one with none":        counted(1, olds()),
		"a count of 15 with one":          counted(15, olds(3)),
		"16 Olds":                         counted(16, olds(repeat(0, 16)...)),
		"16 Olds, the last Live":          counted(16, olds(append(repeat(-1, 15), 0)...)),
		"208 Olds of a byte":              counted(208, olds()),
		"209 Olds":                        counted(209, olds()),
		"255 Olds":                        counted(255, olds()),
		"255 Olds behind a full page":     counted(255, full),
		"a full page, and one more":       counted(4, full),
		"the only Old isn't Live":         counted(1, olds(-1)),
		"the last Old isn't Live":         counted(3, olds(3, 4, -1)),
		"a Live byte of 2":                at(olds(3), 16, 2),
		"a Live byte of 255":              at(olds(3), 16, 255),
		"a Live byte of 2 in between":     at(olds(-1, 3), 16, 2),
		"a second Live byte of 2":         at(olds(3, 4), 30, 2),
		"a Delta of 67":                   counted(1, olds(67)),
		"a Delta of 67 in between":        counted(3, olds(3, 67, 4)),
		"a Delta of 197, to the last":     counted(1, olds(197)),
		"a Delta of 198, one byte beyond": cut(1, olds(198)),
		"a Delta of 255":                  cut(1, olds(255)),
		"a Delta one byte beyond":         cut(3, olds(66, 66, 44)),
		"a Delta far beyond":              cut(3, olds(66, 66, 66)),
		"an Old beyond the payload":       cut(4, olds(66, 66, 40, 0)),
		"an Old cut behind its Live byte": cut(4, olds(66, 66, 42, 0)),
		"a Delta's length of 67":          at(olds(66), 26, 67),
		"a Delta's length of 255":         at(olds(66), 26, 255),
		"a Delta's length too small":      at(olds(3), 26, 2),
	}
}

func TestUndoRefused(t *testing.T) { // P6.3, P6.4
	refused := func(name string, p api.Payload) {
		t.Helper()
		if u, e := GetUndo(4, p); !empty(u) || e != api.ErrForm || Right(api.PageID{Undo: true, No: 4}, p) {
			t.Errorf("%s: GetUndo = %v, %d", name, u, e)
		}
	}
	for name, p := range forged() {
		refused(name, p)
	}
	refused("noughts without a sum", api.Payload{})
	for _, u := range []api.Undo{{}, olds(3), olds(-1, 66), olds(66, 66, 43)} {
		for i := 3; i < 7; i++ {
			p := laidUndo(4, u)
			p[i] ^= 64
			refused("a wrong sum", p)
		}
		for i := Size(u); i < 224; i++ {
			p := laidUndo(4, u)
			p[i] = 1
			refused("a byte behind the end", p)
			refused("a byte behind the end, with its sum", resum(p))
		}
	}
}

// wantUndo takes a payload apart, one condition behind the other.
func wantUndo(no uint16, p api.Payload) (api.Undo, bool) {
	if p != resum(p) || p[0] != 2 || binary.LittleEndian.Uint16(p[1:]) != no {
		return api.Undo{}, false
	}
	u := api.Undo{LSN: binary.LittleEndian.Uint64(p[7:])}
	rest := p[16:]
	for range p[15] {
		if len(rest) == 0 {
			return api.Undo{}, false
		}
		if rest[0] == 0 {
			u.Olds, rest = append(u.Olds, api.Old{}), rest[1:]
			continue
		}
		if rest[0] != 1 || len(rest) < 11 || len(rest) < 11+int(rest[10]) {
			return api.Undo{}, false
		}
		o := api.Old{Live: true, Page: binary.LittleEndian.Uint16(rest[1:]), Ts: binary.LittleEndian.Uint32(rest[3:])}
		o.Next = api.Ref{Page: binary.LittleEndian.Uint16(rest[7:]), Slot: rest[9]}
		end := 11 + int(rest[10])
		o.Delta = string(rest[11:end])
		u.Olds, rest = append(u.Olds, o), rest[end:]
	}
	if strings.Trim(string(rest), "\x00") != "" || !wantMay(u) {
		return api.Undo{}, false
	}
	return u, true
}

// Payloads with right sums, in which some bytes are others: most are no page, some are.
func TestUndoForged(t *testing.T) { // P6.3
	r := rand.New(rand.NewSource(5))
	few := []byte{0, 0, 1, 1, 2, 3, 11, 15, 16, 66, 67, 200, 255}
	yes, no := 0, 0
	for range 40000 {
		p := laidUndo(4, randomUndo(r))
		for n := r.Intn(4); n > 0; n-- {
			at := []int{0, 1, 15, 16, 17, 26, 27, 15 + r.Intn(30), 15 + r.Intn(209), r.Intn(224)}[r.Intn(10)]
			p[at] = few[r.Intn(len(few))]
		}
		p = resum(p)
		want, ok := wantUndo(4, p)
		got, e := GetUndo(4, p)
		if ok && (e != api.OK || !same(got, want)) || !ok && (e != api.ErrForm || !empty(got)) {
			t.Fatalf("GetUndo(4, %x) = %v, %d, want %v, %v", p, got, e, want, ok)
		}
		if Right(api.PageID{Undo: true, No: 4}, p) != ok {
			t.Fatalf("Right(4, %x) is not %v", p, ok)
		}
		if ok {
			yes++
		} else {
			no++
		}
	}
	if yes < 4000 || no < 4000 {
		t.Errorf("%d pages, %d that are none: not both kinds were asked for", yes, no)
	}
}

func TestRandomPayloads(t *testing.T) { // P6.1, P6.3, P6.4
	r := rand.New(rand.NewSource(6))
	for range 5000 {
		var p api.Payload
		r.Read(p[:])
		p[0] = byte(r.Intn(4))
		for _, q := range []api.Payload{p, resum(p)} {
			no := binary.LittleEndian.Uint16(q[1:])
			if d, e := GetData(no, q); d != (api.Data{}) || e != api.ErrForm {
				t.Fatalf("GetData(%d, %x) = %v, %d", no, q, d, e)
			}
			want, ok := wantUndo(no, q)
			if got, e := GetUndo(no, q); !same(got, want) || (e == api.OK) != ok {
				t.Fatalf("GetUndo(%d, %x) = %v, %d", no, q, got, e)
			}
		}
	}
}

func TestBlank(t *testing.T) { // P6.4
	for _, no := range numbers() {
		for _, undo := range []bool{false, true} {
			id := api.PageID{Undo: undo, No: no}
			p := Blank(id)
			want := padded(begun(1, no, 0))
			if undo {
				want = padded(begun(2, no, 0))
			}
			if p != want {
				t.Errorf("Blank(%v) = %x, want %x", id, p, want)
			}
			d, e := GetData(no, p)
			if !undo && (d != api.Data{} || e != api.OK) {
				t.Errorf("GetData of Blank(%v) = %v, %d", id, d, e)
			}
			u, e := GetUndo(no, p)
			if undo && (!empty(u) || e != api.OK) {
				t.Errorf("GetUndo of Blank(%v) = %v, %d", id, u, e)
			}
		}
	}
}

func TestRight(t *testing.T) { // P6.4
	var ids []api.PageID
	for _, no := range numbers() {
		ids = append(ids, api.PageID{No: no}, api.PageID{Undo: true, No: no})
	}
	for _, a := range ids {
		for _, b := range ids {
			if got := Right(a, Blank(b)); got != (a == b) {
				t.Errorf("Right(%v, Blank(%v)) = %v", a, b, got)
			}
		}
		if Right(a, api.Payload{}) {
			t.Errorf("noughts are the page %v", a)
		}
	}
}

// turn turns a bit of a payload; of a byte the lowest one is the first.
func turn(p *api.Payload, bit int) { p[bit/8] ^= 1 << (bit % 8) }

// checkNone fails if a payload is the page of any kind with one of the numbers.
func checkNone(t *testing.T, p api.Payload, nos ...uint16) {
	t.Helper()
	for _, no := range nos {
		d, e1 := GetData(no, p)
		u, e2 := GetUndo(no, p)
		if d != (api.Data{}) || e1 != api.ErrForm || !empty(u) || e2 != api.ErrForm {
			t.Fatalf("%x is the page %d", p, no)
		}
		if Right(api.PageID{No: no}, p) || Right(api.PageID{Undo: true, No: no}, p) {
			t.Fatalf("%x is right as the page %d", p, no)
		}
	}
}

// some are payloads of the page 513 of both kinds, full ones and those with nothing.
func some() []api.Payload {
	r := rand.New(rand.NewSource(7))
	list := []api.Payload{
		Blank(api.PageID{No: 513}),
		Blank(api.PageID{Undo: true, No: 513}),
		PutData(513, randomData(r)),
	}
	for _, u := range []api.Undo{olds(66, 66, 43), olds(-1, 3, -1, 4), randomUndo(r)} {
		p, _ := PutUndo(513, u)
		list = append(list, p)
	}
	return list
}

func TestOneBitTurned(t *testing.T) { // P6.5
	for _, whole := range some() {
		for bit := 7 * 8; bit < 224*8; bit++ {
			p := whole
			turn(&p, bit)
			checkNone(t, p, 513, 0, 1, 65535)
		}
	}
}

func TestBitsTurned(t *testing.T) { // P6.5
	r := rand.New(rand.NewSource(8))
	for _, whole := range some() {
		for first := 7 * 8; first+32 <= 224*8; first++ {
			for _, mask := range []uint32{math.MaxUint32, 1<<31 | 1, 0xedb88320, r.Uint32() | 1} {
				p := whole
				for i := range 32 {
					if mask>>i&1 == 1 {
						turn(&p, first+i)
					}
				}
				checkNone(t, p, 513)
			}
		}
	}
}

// spared is a copy of a page whose Olds have spare room behind them, and that room.
func spared(u api.Undo) (api.Undo, []api.Old) {
	room := make([]api.Old, len(u.Olds)+3)
	copy(room, u.Olds)
	for i := range 3 {
		room[len(u.Olds)+i] = api.Old{Live: true, Ts: 77, Delta: "spare"}
	}
	return api.Undo{LSN: u.LSN, Olds: room[:len(u.Olds)]}, room
}

// No call changes what is handed in or what is behind it, nor hands it out again.
func TestHandedIn(t *testing.T) { // P6.2, P6.3
	pages := undos()
	for _, u := range impossible() {
		pages = append(pages, u)
	}
	for _, u := range pages {
		v, room := spared(u)
		kept := slices.Clone(room)
		Size(v)
		May(v)
		p, e := PutUndo(5, v)
		if v.LSN != u.LSN || !slices.Equal(room, kept) {
			t.Fatalf("%v was changed", u)
		}
		if e != api.OK {
			continue
		}
		a, _ := GetUndo(5, p)
		clear(room)
		if !same(a, u) {
			t.Fatalf("what was got hangs on what was put: %v", u)
		}
		clear(a.Olds[:cap(a.Olds)])
		if b, _ := GetUndo(5, p); !same(b, u) {
			t.Fatalf("two that were got share their Olds: %v", u)
		}
	}
}
