package markup_test

import (
	"testing"

	"markup/api"
)

// step: a piece, and the events that it tells.
type step struct {
	piece, events string
}

// TestTelling: P6: which byte tells which event.
func TestTelling(t *testing.T) {
	for _, steps := range [][]step{
		{{"<a>x\r", `Start a; Text "x\n"`}, {"\ny]", `Text "y]"`}, {"]", `Text "]"`}, {">", ``}},
		{{"<a><![CDATA[]]", `Start a`}, {"]", `Text "]"`}, {"x", `Text "]]x"`}, {"]]></a>", `End a`}},

		// tags
		{{"<", ``}, {"a", ``}, {" ", ``}, {"b='1'", ``}, {"\n", ``}, {">", `Start a b="1"`}, {"<", ``}, {"/", ``}, {"a", ``}, {" ", ``}, {">", `End a`}},
		{{"<a", ``}, {"/", ``}, {">", `Start a; End a`}, {" ", ``}},
		{{"<a b='", ``}, {"\xc3", ``}, {"\xa9", ``}, {"&lt", ``}, {";\r", ``}, {"\n'", ``}, {"/>", `Start a b="é< "; End a`}},
		{{"<a><b/", `Start a`}, {"><c>", `Start b; End b; Start c`}, {"</c></a", `End c`}, {">", `End a`}},

		// comments and instructions
		{{"<!--", ``}, {"x-", ``}, {"y-", ``}, {"-", ``}, {">", `Comment "x-y"`}},
		{{"<?t", ``}, {"?", ``}, {">", `Instruction t`}, {"<?t ", ``}, {" x?", ``}, {"?", ``}, {">", `Instruction t "x?"`}},
		{{"<a>x<!--", `Start a; Text "x"`}, {"--", ``}, {">y", `Comment ""; Text "y"`}},

		// characters and references
		{{"<a>", `Start a`}, {"x", `Text "x"`}, {"\xe2", ``}, {"\x82", ``}, {"\xac", `Text "€"`}, {"\xf0\x9f\x98", ``}, {"\x80", `Text "😀"`}},
		{{"<a>", `Start a`}, {"&", ``}, {"#", ``}, {"x", ``}, {"4", ``}, {"1", ``}, {";", `Text "A"`}, {"&amp", ``}, {";", `Text "&"`}},
		{{"<a>]", `Start a; Text "]"`}, {"]", `Text "]"`}, {"]", `Text "]"`}, {"x>", `Text "x>"`}},

		// line's ends
		{{"<a>", `Start a`}, {"\r", `Text "\n"`}, {"\n", ``}, {"\n", `Text "\n"`}, {"\r", `Text "\n"`}, {"\r", `Text "\n"`}, {"x", `Text "x"`}},
		{{"<a><![CDATA[", `Start a`}, {"\r", `Text "\n"`}, {"\n", ``}, {"\n", `Text "\n"`}, {"]]>", ``}},
		{{"<a>&#13;", `Start a; Text "\r"`}, {"\n", `Text "\n"`}},
		{{"\r", ``}, {"\n", ``}, {"<a/>", `Start a; End a`}, {"\r", ``}, {"\n", ``}},

		// sections
		{{"<a><![CDATA", `Start a`}, {"[", ``}, {"x", `Text "x"`}, {"]", ``}, {"x", `Text "]x"`}, {"]", ``}, {"]", ``}, {">", ``}},
		{{"<a><![CDATA[]", `Start a`}, {">", `Text "]>"`}, {"]", ``}, {"\xe2", `Text "]"`}, {"\x82\xac", `Text "€"`}, {"]]", ``}, {"\xc3", `Text "]]"`}, {"\xa9", `Text "é"`}},
		{{"<a><![CDATA[]]", `Start a`}, {"]", `Text "]"`}, {"]", `Text "]"`}, {"]", `Text "]"`}, {"\r", `Text "]]\n"`}, {"\n", ``}},
		{{"<a><![CDATA[]", `Start a`}, {"\x01", ``}},
		{{"<a><![CDATA[]]", `Start a`}, {"\xc0", ``}},
		{{"<a><![CDATA[]", `Start a`}, {"\xed", `Text "]"`}, {"\xa0", ``}},

		// joined: all of one piece that is Text and stands together
		{{"<a>x&lt;<![CDATA[]]]]><![CDATA[]]>\r\n&#65;\xc3\xa9", `Start a; Text "x<]]\nAé"`}, {"y<!----><![CDATA[z]]>", `Text "y"; Comment ""; Text "z"`}},

		// with an error come the events of the bytes ahead
		{{"<a>x<b/>y\xff<c/>", `Start a; Text "x"; Start b; End b; Text "y"`}},
		{{"<!--c--><a></b", `Comment "c"; Start a`}},
	} {
		p := parser(t, usual)
		for _, s := range steps {
			if list, _ := p.Feed([]byte(s.piece)); words(list) != s.events {
				t.Errorf("P6: %q: the piece %q tells %s; want %s", steps, s.piece, words(list), s.events)
			}
		}
	}
}

// TestTellingAsSoonAsCan: P6, P8: behind each byte all has been told that the text so far tells in one piece.
func TestTellingAsSoonAsCan(t *testing.T) {
	for _, s := range everySample() {
		p := parser(t, s.o)
		var told []api.Event
		for i := 0; i < len(s.text); i++ {
			list, _ := p.Feed([]byte(s.text[i : i+1]))
			told = append(told, list...)
			if whole := read(t, s.o, s.text[:i+1]).events; words(joined(told)) != whole {
				t.Fatalf("P6: %q byte by byte has told %s; in one piece it tells %s", s.text[:i+1], words(joined(told)), whole)
			}
		}
	}
}

// TestEmptyFields: what the document does not name in an event is empty.
func TestEmptyFields(t *testing.T) {
	p := parser(t, usual)
	list, _ := p.Feed([]byte("<!--c--><?t d?><a b='1'>x</a>"))
	if len(list) != 5 {
		t.Fatalf("P6: %s", words(list))
	}
	comment, instruction, start, text, end := list[0], list[1], list[2], list[3], list[4]
	if comment.Name+comment.Space != "" || len(comment.Attrs) != 0 {
		t.Errorf("Comment: %+v", comment)
	}
	if instruction.Space != "" || len(instruction.Attrs) != 0 {
		t.Errorf("Instruction: %+v", instruction)
	}
	if start.Space+start.Value != "" || len(start.Attrs) != 1 || start.Attrs[0] != (api.Attr{Name: "b", Value: "1"}) {
		t.Errorf("Start: %+v", start)
	}
	if text.Name+text.Space != "" || len(text.Attrs) != 0 {
		t.Errorf("Text: %+v", text)
	}
	if end.Space+end.Value != "" || len(end.Attrs) != 0 {
		t.Errorf("End: %+v", end)
	}
}
