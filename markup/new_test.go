package markup_test

import (
	"testing"

	"markup/api"
	"markup/markup"
)

const (
	least    = -1 << 63
	greatest = 1<<63 - 1
)

func TestNewTakesOptions(t *testing.T) {
	for _, o := range []api.Options{
		usual, {Depth: 1, Attrs: 0, Token: 8}, {Depth: 64, Attrs: 32, Token: 1024},
		{Depth: 1, Attrs: 32, Token: 8, Names: true}, {Depth: 64, Attrs: 0, Token: 1024, Names: true},
	} {
		p := parser(t, o)
		if p.At() != 0 {
			t.Errorf("P9: At of a new parser is %d", p.At())
		}
		if e := p.Close(); e != api.ErrEarly {
			t.Errorf("P7: Close of a new parser answers %d", e)
		}
	}
}

func TestNewRefusesOtherNumbers(t *testing.T) {
	for _, n := range []int{least, -1, 0, 65, greatest} {
		refused(t, api.Options{Depth: n, Attrs: 4, Token: 16})
	}
	for _, n := range []int{least, -1, 33, greatest} {
		refused(t, api.Options{Depth: 8, Attrs: n, Token: 16})
	}
	for _, n := range []int{least, -1, 0, 7, 1025, greatest} {
		refused(t, api.Options{Depth: 8, Attrs: 4, Token: n})
	}
	refused(t, api.Options{})
}

func refused(t *testing.T, o api.Options) {
	t.Helper()
	for _, names := range []bool{false, true} {
		o.Names = names
		if p, e := markup.New(o); p != nil || e != api.ErrOptions {
			t.Errorf("P3: New(%+v) answers %v, %d", o, p != nil, e)
		}
	}
}

// TestBoundsOfOptions: each bound is the one of the options, the least and the greatest that there are among them.
func TestBoundsOfOptions(t *testing.T) {
	for _, n := range []int{1, 2, 63, 64} {
		o := api.Options{Depth: n, Attrs: 0, Token: 8}
		kept := many("<a>", n)
		same(t, o, kept+many("</a>", n), api.OK, 7*n)
		same(t, o, kept+"<", api.OK, 3*n+1)
		same(t, o, kept+"<a", api.ErrLimit, 3*n+2)
	}
	for _, n := range []int{0, 1, 31, 32} {
		o := api.Options{Depth: 1, Attrs: n, Token: 8}
		kept := "<a"
		for i := 0; i < n; i++ {
			kept += " b" + string(rune('A'+i/10)) + string(rune('0'+i%10)) + "=''"
		}
		same(t, o, kept+" />", api.OK, len(kept)+3)
		same(t, o, kept+" c", api.ErrLimit, len(kept)+2)
	}
	for _, n := range []int{8, 9, 1023, 1024} {
		o := api.Options{Depth: 1, Attrs: 2, Token: n}
		long := many("n", n)
		for _, c := range [][2]string{{"<", "/>"}, {"<?", "?>"}, {"<?t ", "?>"}, {"<!--", "-->"}, {"<a ", "=''/>"}, {"<a b='", "'/>"}} {
			same(t, o, c[0]+long+c[1], api.OK, len(c[0]+long+c[1]))
			same(t, o, c[0]+long+"n", api.ErrLimit, len(c[0])+n+1)
		}
		same(t, o, "<a "+long+"='' "+long, api.ErrLimit, 3+n+4+n)
	}
}

// same tells whether a text, fed in one piece, is answered so, with so many bytes read.
func same(t *testing.T, o api.Options, text string, want api.Errno, at int) {
	t.Helper()
	if got := read(t, o, text); got.feed != want || got.at != at {
		t.Errorf("P4, P5: %+v: %.60q: %d, At %d; want %d, At %d", o, text, got.feed, got.at, want, at)
	}
}
