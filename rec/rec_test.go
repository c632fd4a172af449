package rec

import (
	"encoding/binary"
	"math"
	"math/rand"
	"slices"
	"strings"
	"testing"

	"varve/api"
)

// The helpers here tell the chapter's words by other means than the package does.

// mayBe is whether there may be a record.
func mayBe(r api.Rec) bool {
	noImage, noDelta := true, r.Delta == ""
	for _, b := range r.Image {
		noImage = noImage && b == 0
	}
	noTs, noSlot := r.Ts == 0, r.Slot == 0
	noPrev := r.Prev.Page == 0 && r.Prev.Slot == 0
	noOld := !r.Old.Live && r.Old.Page == 0 && r.Old.Ts == 0 && r.Old.Next.Page == 0 && r.Old.Next.Slot == 0 && r.Old.Delta == ""
	switch r.Kind {
	case 1:
		return noTs && noPrev && noDelta && noSlot && noOld
	case 2:
		return !r.Page.Undo && len(r.Delta) <= 66 && noImage && noSlot && noOld
	case 3:
		return r.Page.Undo && r.Old.Live && len(r.Old.Delta) <= 66 && noImage && noTs && noPrev && noDelta
	case 4, 5:
		return r.Page.Undo && noImage && noTs && noPrev && noDelta && noOld
	case 6:
		return !r.Page.Undo && r.Page.No == 0 && noImage && noPrev && noDelta && noSlot && noOld
	}
	return false
}

// laid is the bytes of a record that may be.
func laid(r api.Rec) string {
	le := binary.LittleEndian
	b := []byte{r.Kind}
	switch r.Kind {
	case 1:
		if r.Page.Undo {
			b = append(b, 1)
		} else {
			b = append(b, 0)
		}
		text := strings.TrimRight(string(r.Image[:]), "\x00")
		b = append(le.AppendUint16(b, r.Page.No), byte(len(text)))
		b = append(b, text...)
	case 2:
		b = le.AppendUint32(le.AppendUint16(b, r.Page.No), r.Ts)
		b = append(le.AppendUint16(b, r.Prev.Page), r.Prev.Slot, byte(len(r.Delta)))
		b = append(b, r.Delta...)
	case 3:
		b = append(le.AppendUint16(b, r.Page.No), r.Slot)
		b = le.AppendUint32(le.AppendUint16(b, r.Old.Page), r.Old.Ts)
		b = append(le.AppendUint16(b, r.Old.Next.Page), r.Old.Next.Slot, byte(len(r.Old.Delta)))
		b = append(b, r.Old.Delta...)
	case 4, 5:
		b = append(le.AppendUint16(b, r.Page.No), r.Slot)
	case 6:
		b = le.AppendUint32(b, r.Ts)
	}
	return string(b)
}

// fixed is how many bytes a kind's records have at least; what may follow has its length in the last of these.
func fixed(kind byte) int {
	return map[byte]int{1: 5, 2: 11, 3: 14, 4: 4, 5: 4, 6: 5}[kind]
}

// most is the greatest length that may stand there.
func most(kind byte) int {
	return map[byte]int{1: 224, 2: 66, 3: 66}[kind]
}

// meant is the record that has these bytes, if there is one.
func meant(s string) (api.Rec, bool) {
	if s == "" || fixed(s[0]) == 0 || len(s) < fixed(s[0]) {
		return api.Rec{}, false
	}
	b, n := []byte(s), fixed(s[0])
	tail := s[n:]
	if most(s[0]) > 0 && int(s[n-1]) > most(s[0]) || most(s[0]) > 0 && int(s[n-1]) != len(tail) || most(s[0]) == 0 && tail != "" {
		return api.Rec{}, false
	}
	le := binary.LittleEndian
	r := api.Rec{Kind: s[0]}
	switch s[0] {
	case 1:
		if s[1] > 1 || strings.HasSuffix(tail, "\x00") {
			return api.Rec{}, false
		}
		r.Page = api.PageID{Undo: s[1] == 1, No: le.Uint16(b[2:])}
		copy(r.Image[:], tail)
	case 2:
		r.Page.No, r.Ts, r.Delta = le.Uint16(b[1:]), le.Uint32(b[3:]), tail
		r.Prev = api.Ref{Page: le.Uint16(b[7:]), Slot: b[9]}
	case 3:
		r.Page, r.Slot = api.PageID{Undo: true, No: le.Uint16(b[1:])}, b[3]
		r.Old = api.Old{Live: true, Page: le.Uint16(b[4:]), Ts: le.Uint32(b[6:]), Delta: tail}
		r.Old.Next = api.Ref{Page: le.Uint16(b[10:]), Slot: b[12]}
	case 4, 5:
		r.Page, r.Slot = api.PageID{Undo: true, No: le.Uint16(b[1:])}, b[3]
	case 6:
		r.Ts = le.Uint32(b[1:])
	}
	return r, true
}

// field is one field of a record: which kinds have it, and how it comes to be other than zero.
type field struct {
	name  string
	kinds string
	set   func(*api.Rec)
}

func fieldsOfAll() []field {
	return []field{
		{"Page.No 1", "\x01\x02\x03\x04\x05", func(r *api.Rec) { r.Page.No = 1 }},
		{"Page.No 256", "\x01\x02\x03\x04\x05", func(r *api.Rec) { r.Page.No = 256 }},
		{"Page.No, greatest", "\x01\x02\x03\x04\x05", func(r *api.Rec) { r.Page.No = math.MaxUint16 }},
		{"Page.Undo", "\x01\x03\x04\x05", func(r *api.Rec) { r.Page.Undo = true }},
		{"Image, first byte", "\x01", func(r *api.Rec) { r.Image[0] = 1 }},
		{"Image, last byte", "\x01", func(r *api.Rec) { r.Image[223] = 255 }},
		{"Ts 1", "\x02\x06", func(r *api.Rec) { r.Ts = 1 }},
		{"Ts, greatest", "\x02\x06", func(r *api.Rec) { r.Ts = math.MaxUint32 }},
		{"Prev.Page", "\x02", func(r *api.Rec) { r.Prev.Page = 1 }},
		{"Prev.Page, greatest", "\x02", func(r *api.Rec) { r.Prev.Page = math.MaxUint16 }},
		{"Prev.Slot", "\x02", func(r *api.Rec) { r.Prev.Slot = 1 }},
		{"Prev.Slot, greatest", "\x02", func(r *api.Rec) { r.Prev.Slot = math.MaxUint8 }},
		{"Delta of a nought", "\x02", func(r *api.Rec) { r.Delta = "\x00" }},
		{"Delta of 66", "\x02", func(r *api.Rec) { r.Delta = strings.Repeat("d", 66) }},
		{"Slot", "\x03\x04\x05", func(r *api.Rec) { r.Slot = 1 }},
		{"Slot, greatest", "\x03\x04\x05", func(r *api.Rec) { r.Slot = math.MaxUint8 }},
		{"Old.Live", "\x03", func(r *api.Rec) { r.Old.Live = true }},
		{"Old.Page", "\x03", func(r *api.Rec) { r.Old.Page = 1 }},
		{"Old.Page, greatest", "\x03", func(r *api.Rec) { r.Old.Page = math.MaxUint16 }},
		{"Old.Ts", "\x03", func(r *api.Rec) { r.Old.Ts = 1 }},
		{"Old.Ts, greatest", "\x03", func(r *api.Rec) { r.Old.Ts = math.MaxUint32 }},
		{"Old.Next.Page", "\x03", func(r *api.Rec) { r.Old.Next.Page = 1 }},
		{"Old.Next.Page, greatest", "\x03", func(r *api.Rec) { r.Old.Next.Page = math.MaxUint16 }},
		{"Old.Next.Slot", "\x03", func(r *api.Rec) { r.Old.Next.Slot = 1 }},
		{"Old.Next.Slot, greatest", "\x03", func(r *api.Rec) { r.Old.Next.Slot = math.MaxUint8 }},
		{"Old.Delta of a nought", "\x03", func(r *api.Rec) { r.Old.Delta = "\x00" }},
		{"Old.Delta of 66", "\x03", func(r *api.Rec) { r.Old.Delta = strings.Repeat("d", 66) }},
	}
}

// least is the record of a kind in which all is zero that may be.
func least(kind uint8) api.Rec {
	r := api.Rec{Kind: kind}
	r.Page.Undo = kind >= 3 && kind <= 5
	r.Old.Live = kind == 3
	return r
}

// text is n random bytes.
func text(r *rand.Rand, n int) string {
	b := make([]byte, n)
	r.Read(b)
	return string(b)
}

func randomRef(r *rand.Rand) api.Ref {
	return api.Ref{Page: uint16(r.Uint32()), Slot: uint8(r.Uint32())}
}

// randomRec is a record that may be.
func randomRec(r *rand.Rand) api.Rec {
	v := least(uint8(1 + r.Intn(6)))
	if v.Kind != 6 {
		v.Page.No = uint16(r.Uint32())
	}
	switch v.Kind {
	case 1:
		v.Page.Undo = r.Intn(2) == 0
		from := r.Intn(225)
		r.Read(v.Image[from : from+r.Intn(225-from)])
	case 2:
		v.Ts, v.Prev, v.Delta = r.Uint32(), randomRef(r), text(r, r.Intn(67))
	case 3:
		v.Old = api.Old{Live: true, Page: uint16(r.Uint32()), Ts: r.Uint32(), Next: randomRef(r), Delta: text(r, r.Intn(67))}
		v.Slot = uint8(r.Uint32())
	case 4, 5:
		v.Slot = uint8(r.Uint32())
	case 6:
		v.Ts = r.Uint32()
	}
	return v
}

// images are payloads: noughts, full ones, and those that end, or have noughts, where it matters.
func images() []api.Payload {
	var full, but, between, lead api.Payload
	for i := range full {
		full[i], but[i] = 255, byte(i+1)|1
	}
	but[223] = 0
	between[3], between[9], between[100] = 1, 2, 3
	lead[223] = 1
	list := []api.Payload{{}, full, but, between, lead, {0: 1}, {0: 0, 1: 1}, {222: 7}}
	for _, n := range []int{1, 2, 66, 67, 127, 128, 223, 224} {
		var p api.Payload
		copy(p[:n], full[:])
		list = append(list, p)
	}
	return list
}

// possible are records that may be: those of the edges, and random ones.
func possible() []api.Rec {
	var list []api.Rec
	for kind := uint8(1); kind <= 6; kind++ {
		list = append(list, least(kind))
		all := least(kind)
		for _, f := range fieldsOfAll() {
			if !strings.Contains(f.kinds, string([]byte{kind})) {
				continue
			}
			one := least(kind)
			f.set(&one)
			f.set(&all)
			list = append(list, one)
		}
		list = append(list, all)
	}
	for _, p := range images() {
		list = append(list, api.Rec{Kind: 1, Image: p}, api.Rec{Kind: 1, Page: api.PageID{Undo: true, No: 258}, Image: p})
	}
	for n := range 67 {
		d := strings.Repeat("\x00\x41", 33)[:n]
		list = append(list, api.Rec{Kind: 2, Delta: d})
		list = append(list, api.Rec{Kind: 3, Page: api.PageID{Undo: true}, Old: api.Old{Live: true, Delta: d}})
	}
	r := rand.New(rand.NewSource(1))
	for range 600 {
		list = append(list, randomRec(r))
	}
	return list
}

// check fails if a record isn't told as it must be, or isn't refused as it must be.
func check(t *testing.T, name string, r api.Rec) {
	t.Helper()
	may := mayBe(r)
	if May(r) != may {
		t.Errorf("%s: May(%v) = %v", name, r, !may)
	}
	want, err := "", api.ErrArg
	if may {
		want, err = laid(r), api.OK
	}
	if s, e := Encode(r); s != want || e != err {
		t.Errorf("%s: Encode(%v) = %x, %d, want %x, %d", name, r, s, e, want, err)
	}
}

// checkNone fails if bytes are a record's.
func checkNone(t *testing.T, name, s string) {
	t.Helper()
	if r, e := Decode(s); r != (api.Rec{}) || e != api.ErrForm {
		t.Errorf("%s: Decode(%x) = %v, %d", name, s, r, e)
	}
}

func TestExamples(t *testing.T) { // P8.1, P8.2
	for _, c := range []struct {
		r api.Rec
		s string
	}{
		{api.Rec{Kind: api.RCommit, Ts: 258}, "\x06\x02\x01\x00\x00"},
		{api.Rec{Kind: api.RFree, Page: api.PageID{Undo: true, No: 1}, Slot: 3}, "\x04\x01\x00\x03"},
		{api.Rec{Kind: api.RData, Page: api.PageID{No: 2}, Ts: 5}, "\x02\x02\x00\x05\x00\x00\x00\x00\x00\x00\x00"},
		// Told by the chapter's table.
		{api.Rec{Kind: api.RCut, Page: api.PageID{Undo: true, No: 513}, Slot: 255}, "\x05\x01\x02\xff"},
		{api.Rec{Kind: api.RImage, Page: api.PageID{No: 0x0201}}, "\x01\x00\x01\x02\x00"},
		{api.Rec{Kind: api.RImage, Page: api.PageID{Undo: true, No: 7}, Image: api.Payload{1: 5, 3: 9}}, "\x01\x01\x07\x00\x04\x00\x05\x00\x09"},
		{api.Rec{Kind: api.RData, Page: api.PageID{No: 2}, Ts: 0x04030201, Prev: api.Ref{Page: 0x0605, Slot: 7}, Delta: "\x05\x01x"},
			"\x02\x02\x00\x01\x02\x03\x04\x05\x06\x07\x03\x05\x01x"},
		{api.Rec{Kind: api.RAdd, Page: api.PageID{Undo: true, No: 9}, Slot: 14, Old: api.Old{Live: true, Page: 0x0201, Ts: 0x06050403, Next: api.Ref{Page: 0x0807, Slot: 10}, Delta: "ab"}},
			"\x03\x09\x00\x0e\x01\x02\x03\x04\x05\x06\x07\x08\x0a\x02ab"},
	} {
		if s, e := Encode(c.r); s != c.s || e != api.OK || !May(c.r) {
			t.Errorf("Encode(%v) = %x, %d, want %x", c.r, s, e, c.s)
		}
		if r, e := Decode(c.s); r != c.r || e != api.OK {
			t.Errorf("Decode(%x) = %v, %d, want %v", c.s, r, e, c.r)
		}
	}
	check(t, "an RCommit with a Slot", api.Rec{Kind: api.RCommit, Slot: 1})
	checkNone(t, "an image that ends with 0", "\x01\x00\x00\x00\x01\x00")
}

func TestFields(t *testing.T) { // P8.1
	for kind := range 256 {
		kind := uint8(kind)
		r := least(kind)
		if May(r) != (kind >= 1 && kind <= 6) {
			t.Errorf("May of the kind %d is %v", kind, May(r))
		}
		check(t, "least", r)
		for _, f := range fieldsOfAll() {
			r := least(kind)
			f.set(&r)
			if want := strings.Contains(f.kinds, string([]byte{kind})); May(r) != want {
				t.Errorf("%s of the kind %d: May is %v", f.name, kind, May(r))
			}
			check(t, f.name, r)
		}
	}
}

func TestTwoFields(t *testing.T) { // P8.1
	for _, kind := range []uint8{0, 1, 2, 3, 4, 5, 6, 7, 255} {
		for _, f := range fieldsOfAll() {
			for _, g := range fieldsOfAll() {
				r := least(kind)
				f.set(&r)
				g.set(&r)
				check(t, f.name+", "+g.name, r)
			}
		}
	}
}

func TestEachByteOfAnImage(t *testing.T) { // P8.1
	for kind := uint8(0); kind <= 7; kind++ {
		for i := range api.PayloadSize {
			r := least(kind)
			r.Image[i] = 1
			if May(r) != (kind == 1) {
				t.Errorf("the byte %d of an Image of the kind %d: May is %v", i, kind, May(r))
			}
			check(t, "a byte of an image", r)
		}
	}
}

func TestUndoAndLive(t *testing.T) { // P8.1
	for kind := range 256 {
		for _, undo := range []bool{false, true} {
			for _, live := range []bool{false, true} {
				r := api.Rec{Kind: uint8(kind), Page: api.PageID{Undo: undo}, Old: api.Old{Live: live}}
				want := kind == 1 && !live || (kind == 2 || kind == 6) && !undo && !live || kind == 3 && undo && live || (kind == 4 || kind == 5) && undo && !live
				if May(r) != want {
					t.Errorf("the kind %d with Undo %v and Live %v: May is %v", kind, undo, live, !want)
				}
				check(t, "Undo and Live", r)
			}
		}
	}
}

func TestDeltas(t *testing.T) { // P8.1, P8.3
	for _, n := range []int{0, 1, 65, 66, 67, 68, 255, 256, 257, 256 + 66, 65536, 1 << 20} {
		d := strings.Repeat("d", n)
		data := api.Rec{Kind: api.RData, Delta: d}
		add := api.Rec{Kind: api.RAdd, Page: api.PageID{Undo: true}, Old: api.Old{Live: true, Delta: d}}
		for _, r := range []api.Rec{data, add} {
			if May(r) != (n <= 66) {
				t.Errorf("the kind %d with a Delta of %d bytes: May is %v", r.Kind, n, May(r))
			}
			s, e := Encode(r)
			if n <= 66 && (s != laid(r) || e != api.OK) || n > 66 && (s != "" || e != api.ErrArg) {
				t.Errorf("the kind %d with a Delta of %d bytes: %d bytes, %d", r.Kind, n, len(s), e)
			}
		}
	}
}

// noise makes fields of a record that may be other than they were.
func noise(r *rand.Rand, v api.Rec) api.Rec {
	all := fieldsOfAll()
	for range r.Intn(3) {
		all[r.Intn(len(all))].set(&v)
	}
	switch r.Intn(8) {
	case 0:
		v.Kind = uint8(r.Intn(9))
	case 1:
		v.Page.Undo = !v.Page.Undo
	case 2:
		v.Old.Live = !v.Old.Live
	case 3:
		v.Delta += text(r, 60)
	case 4:
		v.Old.Delta += text(r, 60)
	}
	return v
}

func TestRecordsThatMayNotBe(t *testing.T) { // P8.1
	r := rand.New(rand.NewSource(2))
	refused := 0
	for range 5000 {
		v := noise(r, randomRec(r))
		check(t, "noise", v)
		if !mayBe(v) {
			refused++
		}
	}
	if refused < 1000 || refused > 4500 {
		t.Errorf("%d of 5000 may not be", refused)
	}
}

func TestThereAndBack(t *testing.T) { // P8.1, P8.2, P8.3
	for _, r := range possible() {
		check(t, "there", r)
		s, _ := Encode(r)
		if got, e := Decode(s); got != r || e != api.OK {
			t.Fatalf("Decode(%x) = %v, %d, want %v", s, got, e, r)
		}
		if s == "" || len(s) > 400 {
			t.Fatalf("%v has %d bytes", r, len(s))
		}
	}
}

func TestBeginningsAndMore(t *testing.T) { // P8.2, P8.3
	for _, r := range possible() {
		s, _ := Encode(r)
		for n := range len(s) {
			checkNone(t, "a beginning", s[:n])
		}
		for _, more := range []string{"\x00", "\x01", "\xff", "\x06\x00\x00\x00\x00", s, strings.Repeat("\x00", 500)} {
			checkNone(t, "more behind it", s+more)
		}
		if t.Failed() {
			return
		}
	}
}

// No record's bytes begin another one's, nor are they those of two.
func TestNoneBeginsAnother(t *testing.T) { // P8.3
	of := map[string]api.Rec{}
	var all []string
	for _, r := range possible() {
		s, _ := Encode(r)
		if was, ok := of[s]; ok && was != r {
			t.Fatalf("%v and %v are both %x", was, r, s)
		}
		of[s] = r
		all = append(all, s)
	}
	slices.Sort(all)
	all = slices.Compact(all)
	// In order, what begins a text stands next to one that it begins.
	for i := 1; i < len(all); i++ {
		if strings.HasPrefix(all[i], all[i-1]) {
			t.Errorf("%x begins %x", all[i-1], all[i])
		}
	}
}

func TestLengths(t *testing.T) { // P8.2
	for _, kind := range []byte{api.RImage, api.RData, api.RAdd} {
		head := string([]byte{kind}) + strings.Repeat("\x00", fixed(kind)-2)
		for length := range 256 {
			for _, n := range []int{0, 1, 65, 66, 67, 68, 223, 224, 225, 255, 256, length - 1, length, length + 1} {
				if n < 0 {
					continue
				}
				s := head + string([]byte{byte(length)}) + strings.Repeat("x", n)
				want, ok := meant(s)
				if ok != (n == length && length <= most(kind)) {
					t.Fatalf("the kind %d, the length %d, %d bytes: no case for this test", kind, length, n)
				}
				if r, e := Decode(s); r != want || (e == api.OK) != ok || !ok && e != api.ErrForm {
					t.Errorf("the kind %d, the length %d, %d bytes: %d", kind, length, n, e)
				}
			}
		}
	}
}

func TestNoRecords(t *testing.T) { // P8.2
	checkNone(t, "no bytes", "")
	for kind := range 256 {
		if kind >= 1 && kind <= 6 {
			continue
		}
		for _, rest := range []string{"", "\x00", "\x00\x00\x00", "\x00\x00\x00\x00", strings.Repeat("\x00", 10), strings.Repeat("\x00", 13), strings.Repeat("\x00", 400)} {
			checkNone(t, "a kind that is none", string([]byte{byte(kind)})+rest)
		}
	}
	for undo := 2; undo < 256; undo++ {
		checkNone(t, "Undo", "\x01"+string([]byte{byte(undo)})+"\x00\x00\x00")
		checkNone(t, "Undo of an image", "\x01"+string([]byte{byte(undo)})+"\x00\x00\x01x")
	}
	for n := 1; n <= 224; n++ {
		head := "\x01\x00\x00\x00" + string([]byte{byte(n)})
		checkNone(t, "an image of noughts", head+strings.Repeat("\x00", n))
		checkNone(t, "an image that ends with 0", head+strings.Repeat("x", n-1)+"\x00")
		var p api.Payload
		p[n-1] = 1
		if r, e := Decode(head + strings.Repeat("\x00", n-1) + "\x01"); e != api.OK || r.Image != p {
			t.Errorf("an image that ends at %d: %v, %d", n, r, e)
		}
	}
	checkNone(t, "a long text", strings.Repeat("\x01", 1<<20))
	checkNone(t, "a long text", strings.Repeat("\x00", 1<<20))
}

// checkMeant fails if bytes aren't answered as the chapter tells them.
func checkMeant(t *testing.T, s string) bool {
	t.Helper()
	want, ok := meant(s)
	err := api.ErrForm
	if ok {
		err = api.OK
	}
	if r, e := Decode(s); r != want || e != err {
		t.Fatalf("Decode(%x) = %v, %d, want %v, %d", s, r, e, want, err)
	}
	if again, e := Encode(want); ok && (again != s || e != api.OK) {
		t.Fatalf("%x are %v, which has %x, %d", s, want, again, e)
	}
	return ok
}

// Short texts, and records in which each byte becomes any other.
func TestOtherBytes(t *testing.T) { // P8.2
	few := []byte{0, 1, 2, 3, 4, 5, 6, 7, 255}
	for _, a := range few {
		for _, b := range few {
			for _, c := range few {
				for _, d := range few {
					checkMeant(t, string([]byte{a, b, c, d}))
					checkMeant(t, string([]byte{a, b, c, d, 0}))
					checkMeant(t, string([]byte{a, b, 0, 0, c, d}))
				}
			}
		}
	}
	for _, r := range possible()[:120] {
		s, _ := Encode(r)
		for i := range len(s) {
			if i > 15 && i < len(s)-2 {
				continue // amid an image or a delta
			}
			for v := range 256 {
				checkMeant(t, s[:i]+string([]byte{byte(v)})+s[i+1:])
			}
		}
	}
}

func TestRandomBytes(t *testing.T) { // P8.2
	r := rand.New(rand.NewSource(3))
	good := 0
	for range 50000 {
		n := r.Intn(20)
		b := []byte(text(r, n))
		if n > 0 {
			b[0] = byte(r.Intn(8))
		}
		// The bytes in which lengths stand: often the right ones.
		for _, kind := range []byte{1, 2, 3} {
			if n >= fixed(kind) && b[0] == kind && r.Intn(2) == 0 {
				b[fixed(kind)-1] = byte(n - fixed(kind))
				b[1] &= 3
			}
		}
		if checkMeant(t, string(b)) {
			good++
		}
	}
	if good < 1000 {
		t.Errorf("only %d of the texts are records", good)
	}
}
