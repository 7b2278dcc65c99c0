package markup_test

import (
	"testing"

	"markup/api"
)

// standing: a piece, and the place behind it.
type standing struct {
	piece        string
	line, column int
}

// TestPlace: P9: behind each single byte, behind a wrong one, and behind a Close.
func TestPlace(t *testing.T) {
	for _, steps := range [][]standing{
		// every line's end, also one cut in two
		{{"", 1, 1}, {"<", 1, 2}, {"a", 1, 3}, {">", 1, 4}, {"\n", 2, 1}, {"\n", 3, 1}, {"x", 3, 2}, {"\n", 4, 1}},
		{{"<a>", 1, 4}, {"\r", 2, 1}, {"\n", 2, 1}, {"", 2, 1}, {"\n", 3, 1}, {"\r", 4, 1}, {"\r", 5, 1}, {"\n", 5, 1}, {"x", 5, 2}, {"\r", 6, 1}, {"x", 6, 2}, {"\n", 7, 1}, {"\r", 8, 1}},
		{{"<a>\r", 2, 1}, {"", 2, 1}, {"\nx", 2, 2}},
		{{"<a>\n\r", 3, 1}, {"\n\r\n", 4, 1}, {"\r\r", 6, 1}},
		{{"\r", 2, 1}, {"\n", 2, 1}, {"<a/>", 2, 5}, {"\r", 3, 1}, {"\n", 3, 1}, {"\t", 3, 2}, {" ", 3, 3}},

		// characters of one to four bytes
		{{"<a>", 1, 4}, {"\x7f", 1, 5}, {"\xc3", 1, 5}, {"\xa9", 1, 6}, {"\xe2", 1, 6}, {"\x82", 1, 6}, {"\xac", 1, 7}, {"\xf0", 1, 7}, {"\x9f", 1, 7}, {"\x98", 1, 7}, {"\x80", 1, 8}, {"\t", 1, 9}},
		{{"<a>\r\xe2\x82", 2, 1}, {"\xac\n", 3, 1}, {"\xc2", 3, 1}, {"\x85", 3, 2}, {"\xe2\x80\xa8", 3, 3}}, // no line's ends, in this document

		// references, which are no line's ends either
		{{"<a>&", 1, 5}, {"#", 1, 6}, {"1", 1, 7}, {"0", 1, 8}, {";", 1, 9}, {"&#13;\n", 2, 1}, {"&lt;", 2, 5}},

		// in every kind of token
		{{"<a", 1, 3}, {"\r", 2, 1}, {"\n", 2, 1}, {"b", 2, 2}, {"\n", 3, 1}, {"=", 3, 2}, {"\r", 4, 1}, {"'", 4, 2}, {"\r", 5, 1}, {"\n", 5, 1}, {"\xc3", 5, 1}, {"\xa9", 5, 2}, {"'", 5, 3}, {"/", 5, 4}, {">", 5, 5}},
		{{"<!--", 1, 5}, {"\r", 2, 1}, {"\n", 2, 1}, {"-", 2, 2}, {"\n", 3, 1}, {"\xe2\x82", 3, 1}, {"\xac-", 3, 3}, {"->", 3, 5}},
		{{"<?t", 1, 4}, {"\r", 2, 1}, {"\n", 2, 1}, {"x?", 2, 3}, {"\r", 3, 1}, {"\n", 3, 1}, {"é??>", 3, 5}},
		{{"<a><![CDATA[", 1, 13}, {"]", 1, 14}, {"]", 1, 15}, {"\r", 2, 1}, {"\n", 2, 1}, {"\xf0\x9f\x98", 2, 1}, {"\x80]]>", 2, 5}, {"</a", 2, 8}, {"\r", 3, 1}, {"\n", 3, 1}, {">", 3, 2}},

		// behind a wrong byte, alone and with more behind it
		{{"<a></", 1, 6}, {"b", 1, 6}, {"\n\n", 1, 6}},
		{{"<a></b>\n", 1, 6}},
		{{"<a>\n", 2, 1}, {"\x01", 2, 1}},
		{{"<a>\r\n]]>x\n", 2, 3}},
		{{"<a>\xed", 1, 4}, {"\xa0", 1, 4}},
		{{"<a>x\xe2\x82", 1, 5}, {"\n", 1, 5}},
		{{"<a>x\xe2", 1, 5}, {"<", 1, 5}, {"/a>", 1, 5}},
		{{"<a>\r\xf0\x9f\x98", 2, 1}, {"\r\n", 2, 1}},
		{{"<a>\r", 2, 1}, {"\x00", 2, 1}},
		{{"\n\n", 3, 1}, {"x", 3, 1}},
		{{"<a b\n", 2, 1}, {"\xc3\xa9", 2, 1}},
		{{"<a b='1234567890123456", 1, 23}, {"\n", 1, 23}},
		{{"<a b='123456789012345\r", 2, 1}, {"\n", 2, 1}, {"\xc3", 2, 1}},
		{{"<a>&#x11000", 1, 12}, {"0", 1, 12}},
	} {
		p := parser(t, usual)
		line, column := 0, 0
		for _, s := range steps {
			p.Feed([]byte(s.piece))
			p.Feed(nil)
			p.Feed([]byte{})
			if line, column = p.Place(); line != s.line || column != s.column {
				t.Errorf("P9: %+v: Place behind %q is %d, %d; want %d, %d", steps, s.piece, line, column, s.line, s.column)
			}
		}
		for range 2 {
			p.Close()
			p.Feed([]byte("\nx"))
			if l, c := p.Place(); l != line || c != column {
				t.Errorf("P9: %+v: Place behind Close is %d, %d; want %d, %d", steps, l, c, line, column)
			}
		}
	}
}

// TestPlaceBehindEachByte: P9: behind each beginning of the samples, byte by byte.
func TestPlaceBehindEachByte(t *testing.T) {
	for _, s := range everySample() {
		p := parser(t, s.o)
		for i := 0; i < len(s.text); i++ {
			_, e := p.Feed([]byte{s.text[i]})
			mindPlace(t, p, s.text, e)
		}
	}
}

// TestPlaceOfTheWrongByte: P9: each of the 256 bytes behind each context, on a line of its own.
func TestPlaceOfTheWrongByte(t *testing.T) {
	for _, c := range contexts {
		for b := 0; b < 256; b++ {
			text := "\r\n <!--\r-->" + c.text + string([]byte{byte(b)})
			p := parser(t, usual)
			_, e := p.Feed([]byte(text))
			if e != c.want(b) {
				t.Errorf("P5: %q: %d, want %d", text, e, c.want(b))
			}
			mindPlace(t, p, text, e)
			p.Close()
			mindPlace(t, p, text, e)
		}
	}
}

// TestPlaceFarOut: P9: many lines and columns.
func TestPlaceFarOut(t *testing.T) {
	const lines, columns = 70000, 300000
	p := parser(t, usual)
	if _, e := p.Feed([]byte("<a>" + many("\r\n", lines) + many("é", columns))); e != api.OK {
		t.Fatalf("P4: %d", e)
	}
	if line, column := p.Place(); line != lines+1 || column != columns+1 {
		t.Errorf("P9: Place is %d, %d; want %d, %d", line, column, lines+1, columns+1)
	}
}
