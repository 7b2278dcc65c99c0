package writer

import (
	"testing"

	"markup/api"
)

func TestReferences(t *testing.T) {
	inText := map[byte]string{'<': "&lt;", '>': "&gt;", '&': "&amp;", '\r': "&#13;"}
	inValue := map[byte]string{'<': "&lt;", '>': "&gt;", '&': "&amp;", '\r': "&#13;", '"': "&quot;", '\t': "&#9;", '\n': "&#10;"}
	for b := 0; b < 256; b++ {
		if got := referenceInText(byte(b)); got != inText[byte(b)] {
			t.Errorf("P13: the byte %x in text: %q", b, got)
		}
		if got := referenceInValue(byte(b)); got != inValue[byte(b)] {
			t.Errorf("P13: the byte %x in a value: %q", b, got)
		}
	}
}

func TestText(t *testing.T) {
	bind := api.Event{Kind: api.Bind, Name: "p", Value: "<"}
	other := api.Event{Kind: api.Bind, Value: "\""}
	start := api.Event{Kind: api.Start, Name: "a", Attrs: []api.Attr{{Name: "b", Value: "'"}, {Name: "c"}}}
	end := api.Event{Kind: api.End, Name: "a"}
	text := api.Event{Kind: api.Text, Value: "\"\r\n\t"}
	for _, c := range []struct {
		list []api.Event
		want string
	}{
		{nil, ""},
		{[]api.Event{start}, `<a b="'" c="">`},
		{[]api.Event{end, end}, "</a></a>"},
		{[]api.Event{text, text}, "\"&#13;\n\t\"&#13;\n\t"},
		{[]api.Event{bind, other, start}, `<a xmlns:p="&lt;" xmlns="&quot;" b="'" c="">`},
		{[]api.Event{bind, text, other, start, start}, "\"&#13;\n\t<a xmlns=\"&quot;\" b=\"'\" c=\"\"><a b=\"'\" c=\"\">"},
		{[]api.Event{bind, {Kind: api.Unbind, Name: "p"}, start, bind}, `<a b="'" c="">`},
		{[]api.Event{{Kind: api.Comment, Value: "<\r-"}, {Kind: api.Comment}}, "<!--<\r---><!---->"},
		{[]api.Event{{Kind: api.Instruction, Name: "t", Value: "<\r"}, {Kind: api.Instruction, Name: "u"}}, "<?t <\r?><?u?>"},
		{[]api.Event{{Kind: 0, Name: "a"}, {Kind: 8, Value: "x"}, {Kind: -1}}, ""},
	} {
		if got := string(Text(c.list)); got != c.want {
			t.Errorf("P13: %#v is written as %q; want %q", c.list, got, c.want)
		}
	}
}
