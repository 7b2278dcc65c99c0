package markup_test

import (
	"fmt"
	"strings"
	"testing"
	"unicode/utf8"

	"markup/api"
	"markup/markup"
)

var usual = api.Options{Depth: 8, Attrs: 4, Token: 16}

func parser(t *testing.T, o api.Options) *markup.Parser {
	t.Helper()
	p, e := markup.New(o)
	if p == nil || e != api.OK {
		t.Fatalf("P3: New(%+v) answers %d", o, e)
	}
	return p
}

// joined makes one event of each two neighbours that are both Text.
func joined(list []api.Event) []api.Event {
	var out []api.Event
	for _, e := range list {
		last := len(out) - 1
		if e.Kind == api.Text && last >= 0 && out[last].Kind == api.Text {
			out[last].Value += e.Value
			continue
		}
		out = append(out, e)
	}
	return out
}

// words writes events on one line, each field of each, so that no two lists that differ are written alike.
func words(list []api.Event) string {
	var out []string
	for _, e := range list {
		s := fmt.Sprint(e.Kind)
		if name := kindName(e.Kind); name != "" {
			s = name
		}
		if e.Name != "" {
			s += " " + e.Name
		}
		if e.Space != "" {
			s += fmt.Sprintf(" of %q", e.Space)
		}
		if e.Value != "" || e.Kind == api.Text || e.Kind == api.Comment || e.Kind == api.Bind {
			s += fmt.Sprintf(" %q", e.Value)
		}
		for _, a := range e.Attrs {
			s += fmt.Sprintf(" %s=%q", a.Name, a.Value)
			if a.Space != "" {
				s += fmt.Sprintf(" of %q", a.Space)
			}
		}
		out = append(out, s)
	}
	return strings.Join(out, "; ")
}

func kindName(kind int) string {
	switch kind {
	case api.Start:
		return "Start"
	case api.End:
		return "End"
	case api.Text:
		return "Text"
	case api.Comment:
		return "Comment"
	case api.Instruction:
		return "Instruction"
	case api.Bind:
		return "Bind"
	case api.Unbind:
		return "Unbind"
	}
	return ""
}

// outcome is all that a text, fed in pieces and closed, is answered.
type outcome struct {
	events    string
	feed, end api.Errno
	at        int
}

// read feeds and closes. Behind each piece Place and Open are set against what P9 and P10 say of all that was read so far,
// and as this hangs on no cut, so is P8.
func read(t *testing.T, o api.Options, pieces ...string) outcome {
	t.Helper()
	p := parser(t, o)
	var all []api.Event
	var got outcome
	text := strings.Join(pieces, "")
	for _, piece := range pieces {
		list, e := p.Feed([]byte(piece))
		if words(joined(list)) != words(list) {
			t.Fatalf("P6: the piece %q of %q tells neighbours that are both Text: %s", piece, pieces, words(list))
		}
		if got.feed != api.OK && (e != got.feed || len(list) != 0) {
			t.Fatalf("P4: %q: behind the error %d the piece %q answers %s, %d", pieces, got.feed, piece, words(list), e)
		}
		all = append(all, list...)
		got.feed = e
		mindPlace(t, p, text, e)
		mindOpen(t, p, text, all)
	}
	got.events = words(joined(all))
	got.at = p.At()
	got.end = p.Close()
	if p.At() != got.at {
		t.Fatalf("P9: %q: Close changes At from %d to %d", pieces, got.at, p.At())
	}
	mindPlace(t, p, text, got.feed)
	mindOpen(t, p, text, all)
	return got
}

// mindPlace sets Place against P9: of the text At bytes were read, and the last one was wrong if there is an error.
func mindPlace(t *testing.T, p *markup.Parser, text string, e api.Errno) {
	t.Helper()
	good := text[:p.At()]
	if e != api.OK {
		good = text[:p.At()-1]
	}
	wantLine, wantColumn := placeBehind(good)
	if line, column := p.Place(); line != wantLine || column != wantColumn {
		t.Fatalf("P9: %q, error %d: Place behind %q is %d, %d; want %d, %d", text, e, good, line, column, wantLine, wantColumn)
	}
}

// placeBehind counts once more than the program does, over a whole text, with the library's means.
func placeBehind(text string) (int, int) {
	lines := strings.Split(ends(text), "\n")
	last := lines[len(lines)-1]
	column := 1
	for last != "" {
		r, n := utf8.DecodeRuneInString(last)
		if r == utf8.RuneError && n == 1 {
			break
		}
		column++
		last = last[n:]
	}
	return len(lines), column
}

// mindOpen sets Open against P10: the elements whose Start was told, and whose End was not.
func mindOpen(t *testing.T, p *markup.Parser, text string, told []api.Event) {
	t.Helper()
	got, want := strings.Join(p.Open(), " "), strings.Join(opened(told), " ")
	if got != want {
		t.Fatalf("P10: %q: At %d Open is %s; want %s", text, p.At(), got, want)
	}
}

func many(s string, n int) string {
	return strings.Repeat(s, n)
}
