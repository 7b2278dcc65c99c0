package markup_test

import (
	"strings"
	"testing"

	"markup/api"
)

// TestOpen: P10: behind each byte, behind a wrong one, and behind a Close.
func TestOpen(t *testing.T) {
	type opening struct{ piece, open string }
	for _, steps := range [][]opening{
		{{"", ""}, {"<", ""}, {"a", ""}, {" ", ""}, {"b='", ""}, {"<", ""}},
		{{"<!--<x>-->", ""}, {"<?t <x>?>", ""}, {"<a", ""}, {">", "a"}, {"x", "a"}, {"<", "a"}, {"/", "a"}, {"a", "a"}, {" ", "a"}, {">", ""}, {" <!---->", ""}},
		{{"<a", ""}, {"/", ""}, {">", ""}, {"\n", ""}},
		{{"<a><bc>", "a bc"}, {"<d e='>'/", "a bc"}, {">", "a bc"}, {"<d e='/>'", "a bc"}, {">", "a bc d"}, {"</d", "a bc d"}, {">", "a bc"}, {"<![CDATA[</bc>", "a bc"}, {"]]><!--</bc>-->&lt;/bc>", "a bc"}, {"</bc></a>", ""}},
		{{"<a><a><a>", "a a a"}, {"</a>", "a a"}, {"<b><c>", "a a b c"}, {"</c></b></a>", "a"}, {"<d></d>", "a"}, {"</a>", ""}},
		{{"<a><b></b></a><!-", ""}, {"-x", ""}},

		// behind a wrong byte
		{{"<a>", "a"}, {"</b>", "a"}, {"</a>", "a"}},
		{{"<a><b></a></b>", "a b"}},
		{{"<a><b>\xff</b></a>", "a b"}},
		{{"<a><b/><c</a>", "a"}},
		{{"<a/ >", ""}},
		{{"<a><b></b ", "a b"}, {"x", "a b"}},
		{{"<a><b></b><a b='' b", "a"}, {"=", "a"}},
		{{"<a></a><b>", ""}},
		{{"<a><a><a><a><a><a><a><a>", "a a a a a a a a"}, {"<a>", "a a a a a a a a"}},
	} {
		p := parser(t, usual)
		open := ""
		for _, s := range steps {
			p.Feed([]byte(s.piece))
			p.Feed(nil)
			if open = strings.Join(p.Open(), " "); open != s.open {
				t.Errorf("P10: %q: Open behind %q is %s; want %s", steps, s.piece, open, s.open)
			}
		}
		for range 2 {
			p.Close()
			p.Feed([]byte("<x>"))
			if got := strings.Join(p.Open(), " "); got != open {
				t.Errorf("P10: %q: Open behind Close is %s; want %s", steps, got, open)
			}
		}
	}
}

// TestOpenBehindEachByte: P10: behind each beginning of the samples, byte by byte.
func TestOpenBehindEachByte(t *testing.T) {
	for _, s := range everySample() {
		p := parser(t, s.o)
		var told []api.Event
		for i := 0; i < len(s.text); i++ {
			list, _ := p.Feed([]byte{s.text[i]})
			told = append(told, list...)
			mindOpen(t, p, s.text, told)
		}
	}
}

// TestOpenOwn: P2: who has been told names may write into the list, and into its spare room.
func TestOpenOwn(t *testing.T) {
	p := parser(t, usual)
	text := "<a><b><c></c><d><e></e></d></b></a>"
	var told []api.Event
	var spoilt [][]string
	for i := 0; i < len(text); i++ {
		list, _ := p.Feed([]byte{text[i]})
		told = append(told, list...)
		for range 2 {
			mindOpen(t, p, text, told)
			open := p.Open()
			open = open[:cap(open)]
			for k := range open {
				open[k] = "spoilt"
			}
			spoilt = append(spoilt, open)
		}
	}
	for _, open := range spoilt {
		for _, name := range open {
			if name != "spoilt" {
				t.Errorf("P2: a later call wrote into %q", open)
			}
		}
	}
}
