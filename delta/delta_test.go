package delta

import (
	"maps"
	"math/rand"
	"slices"
	"strings"
	"testing"

	"varve/api"
)

// piece is a piece, taken apart.
type piece struct {
	at    int
	bytes string
}

// split takes a text apart into heads and bytes, without a look at what a delta asks of them.
func split(d string) ([]piece, bool) {
	if d == "" {
		return nil, true
	}
	if len(d) < 2 || len(d) < 2+int(d[1]) {
		return nil, false
	}
	n := 2 + int(d[1])
	rest, ok := split(d[n:])
	return append([]piece{{int(d[0]), d[2:n]}}, rest...), ok
}

// isDelta is what the chapter says of a delta, word by word.
func isDelta(d string) bool {
	list, ok := split(d)
	for i, p := range list {
		last := p.at + len(p.bytes) - 1
		ok = ok && len(p.bytes) >= 1 && last <= 63
		if i > 0 {
			ahead := list[i-1].at + len(list[i-1].bytes) - 1
			ok = ok && p.at >= ahead+2
		}
	}
	return ok
}

// bytesOf is which places a delta has, with its bytes.
func bytesOf(t *testing.T, d string) map[int]byte {
	t.Helper()
	if !isDelta(d) {
		t.Fatalf("%x is no delta", d)
	}
	has := map[int]byte{}
	list, _ := split(d)
	for _, p := range list {
		for i := range len(p.bytes) {
			has[p.at+i] = p.bytes[i]
		}
	}
	return has
}

// deltaOf is the delta that has these places: from the last one on, each byte is laid in front.
func deltaOf(has map[int]byte) string {
	d, run := "", ""
	for at := 63; at >= 0; at-- {
		b, ok := has[at]
		if !ok {
			continue
		}
		run = string([]byte{b}) + run
		if _, ahead := has[at-1]; !ahead {
			d = string([]byte{byte(at), byte(len(run))}) + run + d
			run = ""
		}
	}
	return d
}

// made is what Make must answer: each pair of places that differ is asked what stands between.
func made(from, to api.Body) string {
	has := map[int]byte{}
	for a := range 64 {
		for b := a; b < 64; b++ {
			if from[a] == to[a] || from[b] == to[b] || b-a > 3 {
				continue
			}
			for i := a; i <= b; i++ {
				has[i] = to[i]
			}
		}
	}
	return deltaOf(has)
}

// laid is what a delta must make of a body.
func laid(t *testing.T, b api.Body, d string) api.Body {
	t.Helper()
	for at, x := range bytesOf(t, d) {
		b[at] = x
	}
	return b
}

// composed is what Compose must answer.
func composed(t *testing.T, d, e string) string {
	t.Helper()
	has := bytesOf(t, d)
	maps.Copy(has, bytesOf(t, e))
	return deltaOf(has)
}

func randomBody(r *rand.Rand) api.Body {
	var b api.Body
	for i := range b {
		b[i] = byte(r.Intn(256))
	}
	return b
}

// changed is a body that differs from b at about one place of every.
func changed(r *rand.Rand, b api.Body, every int) api.Body {
	for i := range b {
		if r.Intn(every) == 0 {
			b[i] += byte(1 + r.Intn(255))
		}
	}
	return b
}

// randomDelta is a delta whose runs, and what stands between them, are of many lengths.
func randomDelta(r *rand.Rand) string {
	has := map[int]byte{}
	room := 1 + r.Intn(20)
	for at := r.Intn(room); at < 64; at += 1 + r.Intn(room) {
		for n := 1 + r.Intn(room); n > 0 && at < 64; n-- {
			has[at] = byte(r.Intn(256))
			at++
		}
	}
	return deltaOf(has)
}

// deltas are those of the edges, and random ones.
func deltas() []string {
	every := map[int]byte{}
	for at := 0; at < 64; at += 2 {
		every[at] = byte(at)
	}
	list := []string{
		"",
		"\x00\x01\xaa",
		"\x3f\x01\xaa",
		"\x3e\x02\xaa\xbb",
		"\x05\x01\xaa\x07\x01\xbb",
		"\x00\x01\xaa\x3f\x01\xbb",
		"\x00\x40" + strings.Repeat("\xcc", 64),
		"\x01\x3f" + strings.Repeat("\xcd", 63),
		"\x00\x3f" + strings.Repeat("\xce", 63),
		"\x00\x3e" + strings.Repeat("\xce", 62) + "\x3f\x01\xaa",
		deltaOf(every), // 96 bytes: more than Make ever takes
	}
	r := rand.New(rand.NewSource(3))
	for range 200 {
		list = append(list, randomDelta(r))
	}
	return list
}

// noDeltas are texts with one fault each.
func noDeltas() []string {
	return []string{
		"\x05",         // ends in a head
		"\x05\x01",     // ends ahead of the bytes
		"\x05\x02\x01", // ends inside of them
		"\x00\x40" + strings.Repeat("\xcc", 63),
		"\x05\x00", // no byte
		"\x00\x00",
		"\x05\x01\xaa\x09\x00",
		"\x05\x00\x09\x01\xaa",
		"\x40\x01\xaa", // at 64
		"\x40\x00",
		"\xff\x01\xaa",
		"\x3f\x02\xaa\xbb", // reaches beyond 63
		"\x01\x40" + strings.Repeat("\xcc", 64),
		"\x00\x41" + strings.Repeat("\xcc", 65),
		"\x00\xff" + strings.Repeat("\xcc", 255),
		"\xff\xff" + strings.Repeat("\xcc", 255),
		"\x05\x01\xaa\x06\x01\xbb", // side by side
		"\x05\x02\xaa\xbb\x07\x01\xcc",
		"\x3e\x01\xaa\x3f\x01\xbb",
		"\x05\x01\xaa\x05\x01\xbb", // one place twice
		"\x05\x03\xaa\xbb\xcc\x06\x01\xdd",
		"\x05\x01\xaa\x04\x01\xbb", // back
		"\x07\x01\xaa\x05\x01\xbb",
		"\x3f\x01\xaa\x00\x01\xbb",
		"\x05\x01\xaa\x07\x01\xbb\x08", // a good beginning
		"\x05\x01\xaa\x07\x01\xbb\x08\x01\xcc",
		"\x05\x01\xaa\x40\x01\xbb",
		"\x00\x40" + strings.Repeat("\xcc", 64) + "\x00",
		"\x00\x40" + strings.Repeat("\xcc", 64) + "\x40\x01\xaa",
		strings.Repeat("\x05\x01\xaa", 1000),
		strings.Repeat("\x00", 100000),
	}
}

func TestMakeExamples(t *testing.T) { // P3.1
	var zero, all api.Body
	for i := range all {
		all[i] = byte(i + 1)
	}
	with := func(places ...int) api.Body {
		var b api.Body
		for i, p := range places {
			b[p] = byte(i + 1)
		}
		return b
	}
	for _, c := range []struct {
		from, to api.Body
		want     string
	}{
		{zero, zero, ""},
		{all, all, ""},
		{zero, with(5), "\x05\x01\x01"},
		{with(5), zero, "\x05\x01\x00"},
		{zero, with(0), "\x00\x01\x01"},
		{zero, with(63), "\x3f\x01\x01"},
		{zero, with(5, 6), "\x05\x02\x01\x02"},
		{zero, with(5, 7), "\x05\x03\x01\x00\x02"},
		{zero, with(5, 8), "\x05\x04\x01\x00\x00\x02"},
		{zero, with(5, 9), "\x05\x01\x01\x09\x01\x02"},
		{zero, with(5, 8, 11), "\x05\x07\x01\x00\x00\x02\x00\x00\x03"},
		{zero, with(5, 8, 12), "\x05\x04\x01\x00\x00\x02\x0c\x01\x03"},
		{zero, with(60, 63), "\x3c\x04\x01\x00\x00\x02"},
		{zero, with(59, 63), "\x3b\x01\x01\x3f\x01\x02"},
		{zero, with(0, 63), "\x00\x01\x01\x3f\x01\x02"},
		{zero, all, "\x00\x40" + string(all[:])},
		{all, zero, "\x00\x40" + string(zero[:])},
	} {
		if got := Make(c.from, c.to); got != c.want {
			t.Errorf("Make(%x, %x) = %x, want %x", c.from, c.to, got, c.want)
		}
	}
}

// Bytes that stay are told as they are in both, not as noughts, and not from's where they differ.
func TestMakeBytesBetween(t *testing.T) { // P3.1
	var from api.Body
	for i := range from {
		from[i] = byte(100 + i)
	}
	to := from
	to[10], to[13] = 1, 2
	if got := Make(from, to); got != "\x0a\x04\x01\x6f\x70\x02" {
		t.Errorf("Make = %x", got)
	}
}

func TestMakeTwoPlaces(t *testing.T) { // P3.1
	r := rand.New(rand.NewSource(4))
	for a := range 64 {
		for b := range 64 {
			from := randomBody(r)
			to := from
			to[a] ^= 1
			to[b] ^= 2
			got := Make(from, to)
			if got != made(from, to) {
				t.Errorf("Make with %d and %d = %x, want %x", a, b, got, made(from, to))
			}
		}
	}
}

func TestMakeRandom(t *testing.T) { // P3.1, P3.5
	r := rand.New(rand.NewSource(5))
	longest := 0
	for k := range 20000 {
		from := randomBody(r)
		to := changed(r, from, 1+k%40)
		d := Make(from, to)
		if d != made(from, to) {
			t.Fatalf("Make(%x, %x) = %x, want %x", from, to, d, made(from, to))
		}
		if !Check(d) || len(d) > api.MaxDelta || (d == "") != (from == to) {
			t.Fatalf("Make(%x, %x) = %x", from, to, d)
		}
		if b, err := Apply(from, d); b != to || err != api.OK {
			t.Fatalf("Apply of Make(%x, %x) = %x, %d", from, to, b, err)
		}
		checkPieces(t, from, to, d)
		longest = max(longest, len(d))
	}
	if longest != api.MaxDelta {
		t.Errorf("the longest has %d bytes", longest)
	}
}

// checkPieces asks of the pieces what P3.5 says.
func checkPieces(t *testing.T, from, to api.Body, d string) {
	t.Helper()
	list, _ := split(d)
	for i, p := range list {
		last := p.at + len(p.bytes) - 1
		if from[p.at] == to[p.at] || from[last] == to[last] {
			t.Fatalf("Make(%x, %x) = %x: a piece begins or ends with a byte that stays", from, to, d)
		}
		if i > 0 && p.at-list[i-1].at-len(list[i-1].bytes) < 3 {
			t.Fatalf("Make(%x, %x) = %x: pieces too near", from, to, d)
		}
	}
}

func TestCheck(t *testing.T) { // P3.2
	for _, d := range deltas() {
		if !Check(d) {
			t.Errorf("Check(%x) = false", d)
		}
		// Each beginning of it, and each with a byte more.
		for n := range len(d) {
			if Check(d[:n]) != isDelta(d[:n]) {
				t.Errorf("Check(%x) = %v", d[:n], Check(d[:n]))
			}
		}
		if Check(d + "\x3f") {
			t.Errorf("Check(%x3f) = true", d)
		}
	}
	for _, d := range noDeltas() {
		if Check(d) {
			t.Errorf("Check(%x) = true", d)
		}
	}
}

func TestCheckShortTexts(t *testing.T) { // P3.2
	edges := "\x00\x01\x02\x03\x04\x3d\x3e\x3f\x40\xff"
	texts := []string{""}
	for range 6 {
		var longer []string
		for _, s := range texts {
			if Check(s) != isDelta(s) {
				t.Fatalf("Check(%x) = %v", s, Check(s))
			}
			for i := range len(edges) {
				longer = append(longer, s+edges[i:i+1])
			}
		}
		texts = longer
	}
	for _, s := range texts {
		if Check(s) != isDelta(s) {
			t.Fatalf("Check(%x) = %v", s, Check(s))
		}
	}
}

// Two pieces, of all places and some lengths: what is between them tells.
func TestCheckTwoPieces(t *testing.T) { // P3.2
	for a := range 66 {
		for n := range 5 {
			for b := range 66 {
				d := string([]byte{byte(a), byte(n)}) + strings.Repeat("x", n) + string([]byte{byte(b), 1}) + "y"
				want := n > 0 && a+n <= 64 && b <= 63 && b >= a+n+1
				if Check(d) != want {
					t.Errorf("Check(%x) = %v", d, !want)
				}
			}
		}
	}
}

func TestApply(t *testing.T) { // P3.3
	r := rand.New(rand.NewSource(6))
	for _, d := range deltas() {
		b := randomBody(r)
		kept := b
		got, err := Apply(b, d)
		if got != laid(t, b, d) || err != api.OK {
			t.Errorf("Apply(%x, %x) = %x, %d", b, d, got, err)
		}
		if b != kept {
			t.Errorf("Apply(.., %x) has changed the body", d)
		}
	}
	var b api.Body
	b[0], b[63] = 1, 2
	if got, err := Apply(b, ""); got != b || err != api.OK {
		t.Errorf("Apply of no piece = %x, %d", got, err)
	}
}

func TestApplyNoDelta(t *testing.T) { // P3.3
	r := rand.New(rand.NewSource(7))
	for _, d := range noDeltas() {
		if got, err := Apply(randomBody(r), d); got != (api.Body{}) || err != api.ErrForm {
			t.Errorf("Apply(.., %x) = %x, %d", d, got, err)
		}
	}
}

func TestComposeExamples(t *testing.T) { // P3.4
	for _, c := range []struct{ d, e, want string }{
		{"\x05\x01\xaa", "\x06\x01\xbb", "\x05\x02\xaa\xbb"},
		{"\x06\x01\xbb", "\x05\x01\xaa", "\x05\x02\xaa\xbb"},
		{"\x05\x01\xaa", "\x05\x01\xbb", "\x05\x01\xbb"},
		{"\x05\x01\xaa", "\x07\x01\xbb", "\x05\x01\xaa\x07\x01\xbb"}, // no gap is closed
		{"\x05\x01\xaa\x07\x01\xcc", "\x06\x01\xbb", "\x05\x03\xaa\xbb\xcc"},
		{"\x05\x03\xaa\xbb\xcc", "\x06\x01\xdd", "\x05\x03\xaa\xdd\xcc"},
		{"\x06\x01\xdd", "\x05\x03\xaa\xbb\xcc", "\x05\x03\xaa\xbb\xcc"},
		{"\x05\x02\xaa\xbb", "\x06\x02\xcc\xdd", "\x05\x03\xaa\xcc\xdd"},
		{"", "", ""},
		{"\x05\x01\xaa", "", "\x05\x01\xaa"},
		{"", "\x05\x01\xaa", "\x05\x01\xaa"},
		{"\x00\x01\xaa", "\x3f\x01\xbb", "\x00\x01\xaa\x3f\x01\xbb"},
		{"\x05\x01\x00", "\x06\x01\x00", "\x05\x02\x00\x00"}, // noughts are bytes too
	} {
		if got, err := Compose(c.d, c.e); got != c.want || err != api.OK {
			t.Errorf("Compose(%x, %x) = %x, %d, want %x", c.d, c.e, got, err, c.want)
		}
	}
}

func TestCompose(t *testing.T) { // P3.4, P3.5
	r := rand.New(rand.NewSource(8))
	list := deltas()
	for _, d := range list {
		for _, e := range list {
			got, err := Compose(d, e)
			if want := composed(t, d, e); got != want || err != api.OK {
				t.Fatalf("Compose(%x, %x) = %x, %d, want %x", d, e, got, err, want)
			}
			b := randomBody(r)
			one, _ := Apply(b, d)
			one, _ = Apply(one, e)
			if two, err := Apply(b, got); two != one || err != api.OK {
				t.Fatalf("Compose(%x, %x) = %x does something else than both", d, e, got)
			}
		}
	}
}

func TestComposeThree(t *testing.T) { // P3.5
	r := rand.New(rand.NewSource(9))
	list := deltas()
	pick := func() string { return list[r.Intn(len(list))] }
	for range 20000 {
		d, e, f := pick(), pick(), pick()
		de, _ := Compose(d, e)
		ef, _ := Compose(e, f)
		left, err1 := Compose(de, f)
		right, err2 := Compose(d, ef)
		if left != right || err1 != api.OK || err2 != api.OK {
			t.Fatalf("Compose of %x, %x, %x: %x or %x", d, e, f, left, right)
		}
	}
}

func TestComposeNoDelta(t *testing.T) { // P3.4
	for _, bad := range noDeltas() {
		for _, other := range slices.Concat(deltas()[:12], noDeltas()) {
			for _, pair := range [][2]string{{bad, other}, {other, bad}} {
				if got, err := Compose(pair[0], pair[1]); got != "" || err != api.ErrForm {
					t.Errorf("Compose(%x, %x) = %x, %d", pair[0], pair[1], got, err)
				}
			}
		}
	}
}
