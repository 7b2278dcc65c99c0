package markup_test

import (
	"math/rand"
	"strings"
	"testing"

	"markup/api"
	"markup/markup"
)

// endings completes whatever a text may stand in: none of them hangs on what the program says of the text, but for the
// names of the elements that are open.
func endings(text string, open []string) []string {
	begun := []string{""}
	if text != "" && text[len(text)-1] >= 0x80 {
		begun = append(begun, "\x80", "\x80\x80", "\xa0\x80", "\x90\x80\x80", "\x80\x80\x80")
	}
	if i := strings.LastIndex(text, "&"); i >= 0 && !strings.Contains(text[i:], ";") {
		begun = append(begun, ";", "t;", "lt;", "p;", "mp;", "amp;", "s;", "os;", "pos;", "ot;", "uot;", "0;", "00;", "000;", "41;", "x41;")
	}
	tokens := []string{
		"", "/>", ">", "a/>", "='v'/>", "_='v'/>", "9='v'/>", "Q='v'/>", "''/>", "'/>", "\"/>",
		"!---->", "---->", "--->", "-->", "->", "t?>", "?>", "_?>", "CDATA[]]>", "DATA[]]>", "ATA[]]>", "TA[]]>", "A[]]>", "[]]>", "]]>", "]>",
	}
	tails := []string{"", "<z/>", closing(open)}
	if last := len(open) - 1; last >= 0 {
		tails = append(tails, closing(open[:last]))
		for i := 0; i <= len(open[last]); i++ {
			tokens = append(tokens, "/"+open[last][i:]+">", open[last][i:]+">")
		}
	}
	var all []string
	for _, b := range begun {
		for _, k := range tokens {
			for _, t := range tails {
				all = append(all, b+k+t)
			}
		}
	}
	return all
}

func closing(open []string) string {
	s := ""
	for i := len(open) - 1; i >= 0; i-- {
		s += "</" + open[i] + ">"
	}
	return s
}

// hope tells whether some ending makes a text a document, with the bounds of the options and with none.
func hope(o api.Options, text string, open []string) (bounded, free bool) {
	for _, ending := range endings(text, open) {
		m, good := measure(text + ending)
		if good && m.fits(o) {
			return true, true
		}
		free = free || good
	}
	return false, free
}

func opened(list []api.Event) []string {
	var open []string
	for _, e := range list {
		switch e.Kind {
		case api.Start:
			open = append(open, e.Name)
		case api.End:
			open = open[:len(open)-1]
		}
	}
	return open
}

// mindNext sets what the program says of each of some bytes behind a text against what the grammar says.
func mindNext(t *testing.T, o api.Options, text string, bytes []byte) {
	t.Helper()
	for _, b := range bytes {
		p := parser(t, o)
		list, e := p.Feed([]byte(text))
		if e != api.OK {
			t.Fatalf("P4: %q answers %d", text, e)
		}
		longer := text + string([]byte{b})
		more, e := p.Feed([]byte{b})
		bounded, free := hope(o, longer, opened(append(list, more...)))
		if bounded != (e == api.OK) {
			t.Errorf("P4: %+v: %q: %d; by the grammar hopeless is %v", o, longer, e, !bounded)
		}
		if !bounded && free != (e == api.ErrLimit) {
			t.Errorf("P5: %+v: %q: %d; by the grammar hopeless with no bounds is %v", o, longer, e, !free)
		}
	}
}

// telling bytes: at least one of each kind that some rule knows.
const telling = "\x00\x08\t\n\x0b\r\x1f !\"#&'-./029:;<=>?ACDFGTXZ[]_abefglmopqstuxz{\x7f\x80\x8f\x90\x9f\xa0\xbd\xbe\xbf\xc0\xc1\xc2\xdf\xe0\xe1\xed\xee\xef\xf0\xf1\xf4\xf5\xff"

// TestHopeless: P4 and ErrLimit of P5: behind the beginning of each context.
func TestHopeless(t *testing.T) {
	for _, c := range contexts {
		t.Run("", func(t *testing.T) {
			t.Parallel()
			mindNext(t, usual, c.text, []byte(telling))
		})
	}
}

// TestHopelessAfterWalks: the same behind texts that were made byte by byte, each byte one that the program takes.
func TestHopelessAfterWalks(t *testing.T) {
	for seed := int64(0); seed < 150; seed++ {
		t.Run("", func(t *testing.T) {
			t.Parallel()
			r := rand.New(rand.NewSource(seed))
			o := api.Options{Depth: 1 + r.Intn(3), Attrs: r.Intn(4), Token: 8 + r.Intn(2)}
			text := ""
			for i := r.Intn(60); i > 0; i-- {
				text += goOn(t, r, o, text, fragments)
			}
			mindNext(t, o, text, []byte(telling))
		})
	}
}

// goOn gives a few bytes with which a text goes on, or none if none were found.
func goOn(t *testing.T, r *rand.Rand, o api.Options, text string, fragments []string) string {
	for range 100 {
		more := fragments[r.Intn(len(fragments))]
		p := parser(t, o)
		if _, e := p.Feed([]byte(text + more)); e == api.OK {
			return more
		}
	}
	return ""
}

var fragments = []string{
	"<", "<", "<", ">", ">", "/", "/>", "</", "!", "-", "--", "-->", "?", "?>", "[", "CDATA[", "]", "]]", "]]>", "=", "='", "'", "\"", " ", " ", "\r", "\n", "\t",
	"&", "&#", "&lt;", "x", "lt", "amp", ";", "1", "41", "a", "b", "ab", "xml", "_", "<a>", "<b ", "</a>", "</b>", "<!--", "<![CDATA[", "<?t ", "a='", "b=\"", "abcdefg", "\xc3", "\xa9", "\xe2\x82", "\xac", "é",
}

// namedFragments: such that stand in names and declarations.
var namedFragments = []string{
	"<a", "<p:a", "<p:b>", "<q:a ", "<xml:a>", "</a>", "</p:a>", "</p:b>", ">", ">", "/>", "/", " ", "\n", ":", "p", "p:", "a", "xmlns", "xmlns:", "=", "'", "'", "\"", "u", "x", "<?", "?", "?>", "<!--", "-->",
	" xmlns='u'", " xmlns=''", " xmlns:p='u'", " xmlns:p='v'", " xmlns:q='u'", " xmlns:q=\"v\"", " p:b=''", " q:b=''", " xml:b=''", " b=''",
}

// TestEverythingEnds: P1: bytes at random, and fragments at random, neither end badly nor read on.
func TestEverythingEnds(t *testing.T) {
	r := rand.New(rand.NewSource(1))
	for i := 0; i < 20000; i++ {
		o := api.Options{Depth: 1 + r.Intn(64), Attrs: r.Intn(33), Token: 8 + r.Intn(1017), Names: r.Intn(2) == 0}
		p, e := markup.New(o)
		if e != api.OK {
			t.Fatalf("P3: %+v: %d", o, e)
		}
		var text []byte
		for k := r.Intn(30); k > 0; k-- {
			piece := []byte(fragments[r.Intn(len(fragments))])
			if i%2 == 0 {
				piece = []byte(namedFragments[r.Intn(len(namedFragments))])
			}
			if r.Intn(8) == 0 {
				piece = make([]byte, r.Intn(20))
				r.Read(piece)
			}
			at := p.At()
			list, e := p.Feed(piece)
			if p.At() < at || p.At() > at+len(piece) || e == api.OK && p.At() != at+len(piece) || len(list) > 2*p.At() {
				t.Fatalf("P4: %q: %d, At %d to %d, %d events", piece, e, at, p.At(), len(list))
			}
			line, column := p.Place()
			if line < 1 || column < 1 || line+column > p.At()+2 || len(p.Open()) > o.Depth || e != api.OK && len(p.Rest()) > 0 {
				t.Fatalf("P9, P10: %q: %d, Place %d, %d, Open %q, Rest %q", piece, e, line, column, p.Open(), p.Rest())
			}
			if e == api.OK {
				text = append(text, piece...)
				mindRest(t, p, o, string(text))
			}
		}
		p.Close()
	}
}
