package markup_test

import (
	"testing"

	"markup/api"
	"markup/markup"
)

// later tells what the calls of an ended parser answer: each always the same, and nothing is read.
func later(t *testing.T, p *markup.Parser, text string, want api.Errno) {
	t.Helper()
	at := p.At()
	for _, piece := range []string{"", "<a/>", "\xff", " ", "</a>"} {
		if list, e := p.Feed([]byte(piece)); len(list) != 0 || e != want || p.At() != at {
			t.Errorf("P4: %q, ended: Feed of %q answers %s, %d, At %d; want %d, At %d", text, piece, words(list), e, p.At(), want, at)
		}
		if list, e := p.Feed(nil); len(list) != 0 || e != want {
			t.Errorf("P4: %q, ended: Feed of nothing answers %s, %d; want %d", text, words(list), e, want)
		}
		if e := p.Close(); e != want || p.At() != at {
			t.Errorf("P7: %q, ended: Close answers %d, At %d; want %d, At %d", text, e, p.At(), want, at)
		}
	}
}

func TestBehindClose(t *testing.T) {
	for _, s := range everySample() {
		if s.feed != api.OK {
			continue
		}
		p := parser(t, s.o)
		p.Feed([]byte(s.text))
		want := p.Close()
		if want != s.end {
			t.Errorf("P7: %q: Close answers %d, want %d", s.text, want, s.end)
		}
		if want == api.OK {
			want = api.ErrClosed
		}
		later(t, p, s.text, want)
	}
}

func TestBehindAnError(t *testing.T) {
	for _, s := range everySample() {
		if s.feed == api.OK {
			continue
		}
		p := parser(t, s.o)
		p.Feed([]byte(s.text))
		later(t, p, s.text, s.feed)
	}
}

// TestCloseAnywhere: P7: of all that a document begins with, it is closed well with no more than spaces, comments and
// instructions missing.
func TestCloseAnywhere(t *testing.T) {
	const head, tail = " <!--c--><?t d?><a b='1'>x&lt;<b/><![CDATA[y]]>\xc3\xa9</a>", " <!--c-->\r\n<?t d?>"
	whole := head + tail
	documents := map[int]bool{len(head): true, len(head) + 1: true, len(head) + 9: true, len(head) + 10: true, len(head) + 11: true, len(whole): true}
	for i := 0; i <= len(whole); i++ {
		want := api.ErrEarly
		if documents[i] {
			want = api.OK
		}
		if got := read(t, usual, whole[:i]); got.feed != api.OK || got.end != want {
			t.Errorf("P7: %q: Feed answers %d, Close %d; want %d", whole[:i], got.feed, got.end, want)
		}
	}
}

// TestEmptyPieces: P4, P8: an empty piece reads nothing and is no end.
func TestEmptyPieces(t *testing.T) {
	p := parser(t, usual)
	for _, piece := range []string{"", "<a>", "", "\r", "", "\n", "\xc3", "", "\xa9", "</a>", ""} {
		at := p.At()
		if _, e := p.Feed([]byte(piece)); e != api.OK || p.At() != at+len(piece) {
			t.Errorf("P4: the piece %q answers %d, At %d", piece, e, p.At())
		}
		if list, e := p.Feed(nil); len(list) != 0 || e != api.OK || p.At() != at+len(piece) {
			t.Errorf("P4: no piece: %s, %d, At %d", words(list), e, p.At())
		}
	}
	if e := p.Close(); e != api.OK {
		t.Errorf("P7: Close answers %d", e)
	}
}
