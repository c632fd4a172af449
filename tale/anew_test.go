package tale

import (
	"encoding/hex"
	"fmt"
	"math/rand"
	"regexp"
	"strconv"
	"strings"
	"testing"

	"varve/api"
	"varve/world"
)

// The chapter told anew: lines are taken apart by patterns, and put together by fmt.

var (
	plainLine = regexp.MustCompile(`^(step|round|fuse|fail|open) (\d+)$`)
	crashLine = regexp.MustCompile(`^crash (-|[01]+)$`)
	askLine   = regexp.MustCompile(`^ask (\d) (begin|vacuum|checkpoint|close|read (\d+) (\d+)|write (\d+) (\d+) (\d+) (-|(?:[0-9a-f]{2}){1,64})|commit (\d+)|abort (\d+))$`)
	noughts   = regexp.MustCompile(`(^| )0\d`)
)

func digitsUpTo(s string, most int) (int, bool) {
	n, err := strconv.Atoi(s)
	return n, err == nil && n <= most
}

func anewLine(line string) (api.Event, bool) {
	kinds := map[string]uint8{"step": 1, "round": 2, "fuse": 3, "fail": 4, "open": 6}
	if m := plainLine.FindStringSubmatch(line); m != nil {
		a, ok := digitsUpTo(m[2], 1<<31-1)
		return api.Event{Kind: kinds[m[1]], A: a}, ok && !noughts.MatchString(line)
	}
	if m := crashLine.FindStringSubmatch(line); m != nil {
		e := api.Event{Kind: 5}
		for _, r := range strings.Trim(m[1], "-") {
			e.Keep = append(e.Keep, r == '1')
		}
		return e, len(m[1]) <= 2000
	}
	m := askLine.FindStringSubmatch(line)
	if m == nil {
		return api.Event{}, false
	}
	e := api.Event{}
	e.A, _ = strconv.Atoi(m[1])
	calls := map[string]uint8{"begin": 0, "read": 1, "write": 2, "commit": 3, "abort": 4, "vacuum": 5, "checkpoint": 6, "close": 7}
	e.Call.Kind = calls[strings.Split(m[2], " ")[0]]
	fine := !noughts.MatchString(strings.TrimSuffix(line, m[8]))
	take := func(s string, most int) int {
		if s == "" {
			return 0
		}
		n, ok := digitsUpTo(s, most)
		fine = fine && ok
		return n
	}
	e.Call.Txn = uint64(take(m[3]+m[5]+m[9]+m[10], 1<<31-1))
	e.Call.Page = uint16(take(m[4]+m[6], 65535))
	e.Call.Off = take(m[7], 1<<31-1)
	if m[8] != "" && m[8] != "-" {
		b, _ := hex.DecodeString(m[8])
		e.Call.S = string(b)
	}
	return e, fine
}

func anewParse(text string) ([]api.Event, int, api.Errno) {
	if len(text) > 131072 {
		return nil, 0, api.ErrMany
	}
	if text == "" {
		return nil, 0, api.OK
	}
	all := strings.SplitAfter(text, "\n")
	if all[len(all)-1] == "" {
		all = all[:len(all)-1]
	}
	var list []api.Event
	for i, line := range all {
		if i >= 2000 {
			return nil, i + 1, api.ErrMany
		}
		e, ok := anewLine(strings.TrimSuffix(line, "\n"))
		if !ok || !strings.HasSuffix(line, "\n") {
			return nil, i + 1, api.ErrForm
		}
		list = append(list, e)
	}
	return list, 0, api.OK
}

func anewPrint(e api.Event) string {
	dash := func(s string) string {
		if s == "" {
			return "-"
		}
		return s
	}
	switch e.Kind {
	case api.EAsk:
		c := e.Call
		call := [...]string{
			"begin", fmt.Sprintf("read %d %d", c.Txn, c.Page), fmt.Sprintf("write %d %d %d %s", c.Txn, c.Page, c.Off, dash(fmt.Sprintf("%x", c.S))),
			fmt.Sprintf("commit %d", c.Txn), fmt.Sprintf("abort %d", c.Txn), "vacuum", "checkpoint", "close",
		}[c.Kind]
		return fmt.Sprintf("ask %d %s\n", e.A, call)
	case api.ECrash:
		s := strings.NewReplacer("[", "", "]", "", " ", "", "true", "1", "false", "0").Replace(fmt.Sprint(e.Keep))
		return "crash " + dash(s) + "\n"
	}
	return fmt.Sprintf("%s %d\n", [...]string{"", "step", "round", "fuse", "fail", "", "open"}[e.Kind], e.A)
}

// anyEvent is an event that has a line.
func anyEvent(x *rand.Rand) api.Event {
	any := func() int { return x.Intn(1 << uint(x.Intn(32))) }
	e := api.Event{Kind: uint8(x.Intn(7))}
	switch e.Kind {
	case api.EAsk:
		e.A = x.Intn(10)
		e.Call.Kind = uint8(x.Intn(8))
		if k := e.Call.Kind; k >= api.CRead && k <= api.CAbort {
			e.Call.Txn = uint64(any())
			if k <= api.CWrite {
				e.Call.Page = uint16(any())
			}
		}
		if e.Call.Kind == api.CWrite {
			b := make([]byte, x.Intn(65)*x.Intn(2))
			x.Read(b)
			e.Call.Off, e.Call.S = any(), string(b)
		}
	case api.ECrash:
		for range x.Intn(30) * x.Intn(2) {
			e.Keep = append(e.Keep, x.Intn(2) == 0)
		}
	default:
		e.A = any()
	}
	return e
}

func TestToldAnew(t *testing.T) { // P28.1, P28.2, P28.4
	x := rand.New(rand.NewSource(28))
	for range 1500 {
		var list []api.Event
		var text string
		for range x.Intn(30) {
			e := anyEvent(x)
			list = append(list, e)
			text += anewPrint(e)
		}
		wantText(t, text, list...)
	}
}

// spoilt is a text in which something was changed, most often so that it isn't a script any more.
func spoilt(x *rand.Rand, text string) string {
	const bytes = "0123456789abcdefABF -\n\r\tgz+.\x00\xff"
	b := []byte(text)
	for range 1 + x.Intn(3) {
		at := x.Intn(len(b) + 1)
		switch x.Intn(4) {
		case 0: // one more
			b = append(b[:at:at], append([]byte{bytes[x.Intn(len(bytes))]}, b[at:]...)...)
		case 1: // one fewer
			if at < len(b) {
				b = append(b[:at:at], b[at+1:]...)
			}
		case 2: // another one
			if at < len(b) {
				b[at] = bytes[x.Intn(len(bytes))]
			}
		case 3: // an end
			if x.Intn(8) == 0 {
				b = b[:at:at]
			}
		}
	}
	return string(b)
}

func TestSpoiltTexts(t *testing.T) { // P28.2, P28.4
	x := rand.New(rand.NewSource(82))
	good, bad := 0, 0
	for range 60000 {
		var text string
		for range 1 + x.Intn(4) {
			text += anewPrint(anyEvent(x))
		}
		text = spoilt(x, text)
		got, line, e := Parse(text)
		want, wantLine, wantE := anewParse(text)
		if !sameEvents(got, want) || line != wantLine || e != wantE {
			t.Fatalf("Parse(%q) = %+v, %d, %d, want %+v, %d, %d", text, got, line, e, want, wantLine, wantE)
		}
		if e != api.OK {
			bad++
			continue
		}
		good++
		if again, e := Print(got); again != text || e != api.OK { // what is read is printed as it stood
			t.Fatalf("Print(Parse(%q)) = %q, %d", text, again, e)
		}
	}
	if good < 1000 || bad < 1000 {
		t.Errorf("%d are scripts, %d aren't", good, bad)
	}
}

// mayTell tells whether an event has a line, field by field.
func mayTell(e api.Event) bool {
	number := func(n int) bool { return n >= 0 && n < 1<<31 }
	c := e.Call
	if e.B != 0 || e.Kind > api.EOpen || e.Kind != api.ECrash && len(e.Keep) > 0 || e.Kind != api.EAsk && c != (api.Call{}) {
		return false
	}
	switch e.Kind {
	case api.ECrash:
		return e.A == 0 && len(e.Keep) <= 2000
	case api.EAsk:
		txn := c.Txn < 1<<31
		if c.Kind == api.CWrite {
			return e.A >= 0 && e.A < 10 && txn && number(c.Off) && len(c.S) <= 64
		}
		if c.Kind < api.CRead || c.Kind > api.CAbort {
			txn = c.Txn == 0
		}
		return e.A >= 0 && e.A < 10 && c.Kind < 8 && txn && (c.Kind == api.CRead || c.Page == 0) && c.Off == 0 && c.S == ""
	}
	return number(e.A)
}

func TestSpoiltEvents(t *testing.T) { // P28.1, P28.4
	x := rand.New(rand.NewSource(18))
	odd := []int{-1 << 63, -1, 0, 1, 9, 10, 1<<31 - 1, 1 << 31, 1 << 32, 1<<63 - 1}
	good, bad := 0, 0
	for range 30000 {
		e := anyEvent(x)
		switch x.Intn(12) {
		case 0:
			e.Kind = uint8(x.Intn(9))
		case 1:
			e.A = odd[x.Intn(len(odd))]
		case 2:
			e.B = odd[x.Intn(len(odd))]
		case 3:
			e.Keep = make([]bool, []int{0, 1, 2000, 2001}[x.Intn(4)])
		case 4:
			e.Call.Kind = uint8(x.Intn(10))
		case 5:
			e.Call.Txn = uint64(odd[x.Intn(len(odd))])
		case 6:
			e.Call.Page = uint16(x.Intn(2))
		case 7:
			e.Call.Off = odd[x.Intn(len(odd))]
		case 8:
			e.Call.S = strings.Repeat("x", []int{0, 1, 64, 65}[x.Intn(4)])
		}
		if mayTell(e) {
			good++
			wantText(t, anewPrint(e), e)
		} else {
			bad++
			wantUnprinted(t, fmt.Sprintf("%+v", e), []api.Event{e}, api.ErrArg)
		}
	}
	if good < 1000 || bad < 1000 {
		t.Errorf("%d have a line, %d haven't", good, bad)
	}
}

func anewTell(t api.Told) string {
	name := "call"
	if names := strings.Fields("begin read write commit abort vacuum checkpoint close"); t.Call.Kind < 8 {
		name = names[t.Call.Kind]
	}
	s := fmt.Sprintf("%d %d %s %d", uint32(t.Life), uint32(t.Who), name, uint32(t.From))
	if t.Open {
		return s + " open"
	}
	s += fmt.Sprintf(" %d %d %d %d", uint32(t.To), uint32(t.Reply.Err), t.Reply.Txn, t.Reply.Ts)
	body := t.Reply.Body[:]
	for len(body) > 0 && body[len(body)-1] == 0 {
		body = body[:len(body)-1]
	}
	if len(body) > 0 {
		s += fmt.Sprintf(" %x", body)
	}
	return s
}

func TestTellAnew(t *testing.T) { // P28.3
	x := rand.New(rand.NewSource(3))
	any := func() int { return int(x.Uint64()) >> uint(x.Intn(64)) }
	for range 20000 {
		told := api.Told{
			Who: any(), Life: any(), From: any(), To: any(), Open: x.Intn(4) == 0, Call: call(uint8(x.Intn(10))),
			Reply: api.Reply{Err: api.Errno(any()), Txn: uint64(any()), Ts: uint32(any())},
		}
		x.Read(told.Reply.Body[:x.Intn(65)*x.Intn(2)])
		wantTell(t, told, anewTell(told))
	}
}

func TestScriptsOfAnything(t *testing.T) { // P28.3: what a world tells behind a script's events
	x := rand.New(rand.NewSource(4))
	for range 150 {
		c := api.Config{Pages: 1 + x.Intn(16), Undo: 1 + x.Intn(5), Log: 64 + x.Intn(20), MaxTs: uint32(x.Intn(30))}
		frames := 4 + x.Intn(29)
		var text, want string
		w := world.New(c, frames)
		for range x.Intn(120) {
			e := anyEvent(x)
			w.Do(e)
			text += anewPrint(e)
		}
		for _, told := range w.Told() {
			want += anewTell(told) + "\n"
		}
		if got, line, e := Run(c, frames, text); got != want || line != 0 || e != api.OK {
			t.Fatalf("Run(%+v, %d, %q) = %q, %d, %d, want %q", c, frames, text, got, line, e, want)
		}
	}
}
