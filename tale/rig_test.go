package tale

import (
	"slices"
	"strings"
	"testing"

	"varve/api"
)

func asked(who int, c api.Call) api.Event { return api.Event{Kind: api.EAsk, A: who, Call: c} }
func with(kind uint8, a int) api.Event    { return api.Event{Kind: kind, A: a} }
func crash(keep ...bool) api.Event        { return api.Event{Kind: api.ECrash, Keep: keep} }
func call(kind uint8) api.Call            { return api.Call{Kind: kind} }

// keptOf is as many digits of what is kept.
func keptOf(n int) []bool {
	list := make([]bool, n)
	for i := range list {
		list[i] = i%3 == 0
	}
	return list
}

func small() api.Config { return api.Config{Pages: 4, Undo: 6, Log: 100, MaxTs: 99} }

// lines is lines, each ended.
func lines(list ...string) string { return strings.Join(list, "\n") + "\n" }

func sameEvents(a, b []api.Event) bool {
	return slices.EqualFunc(a, b, func(x, y api.Event) bool {
		return x.Kind == y.Kind && x.A == y.A && x.B == y.B && x.Call == y.Call && slices.Equal(x.Keep, y.Keep)
	})
}

// wantText fails, unless that is the events' text, and these the text's events.
func wantText(t *testing.T, text string, list ...api.Event) {
	t.Helper()
	if got, e := Print(list); got != text || e != api.OK {
		t.Errorf("Print(%+v) = %q, %d, want %q", list, got, e, text)
	}
	if got, line, e := Parse(text); !sameEvents(got, list) || line != 0 || e != api.OK {
		t.Errorf("Parse(%q) = %+v, %d, %d", text, got, line, e)
	}
}

func wantUnprinted(t *testing.T, name string, list []api.Event, want api.Errno) {
	t.Helper()
	if got, e := Print(list); got != "" || e != want {
		t.Errorf("%s: Print = %q, %d, want %d", name, got, e, want)
	}
}

// wantUnread fails, unless that line is the first that is wrong.
func wantUnread(t *testing.T, name, text string, line int, want api.Errno) {
	t.Helper()
	if got, n, e := Parse(text); len(got) != 0 || n != line || e != want {
		t.Errorf("%s: Parse = %d events, line %d, %d, want line %d, %d", name, len(got), n, e, line, want)
	}
	if got, n, e := Run(small(), 5, text); got != "" || n != line || e != want {
		t.Errorf("%s: Run = %q, line %d, %d, want line %d, %d", name, got, n, e, line, want)
	}
}

// wantNoLine fails, if there is such a line, wherever it stands.
func wantNoLine(t *testing.T, line string) {
	t.Helper()
	wantUnread(t, line, line+"\n", 1, api.ErrForm)
	wantUnread(t, line, lines("step 0", "open 1", line, "step 0"), 3, api.ErrForm)
}
