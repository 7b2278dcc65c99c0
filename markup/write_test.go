package markup_test

import (
	"testing"

	"markup/api"
	"markup/markup"
)

func start(name string, attrs ...api.Attr) api.Event {
	return api.Event{Kind: api.Start, Name: name, Attrs: attrs}
}

func end(name string) api.Event { return api.Event{Kind: api.End, Name: name} }

func text(s string) api.Event { return api.Event{Kind: api.Text, Value: s} }

func comment(s string) api.Event { return api.Event{Kind: api.Comment, Value: s} }

func instruction(name, s string) api.Event {
	return api.Event{Kind: api.Instruction, Name: name, Value: s}
}

func bind(prefix, s string) api.Event {
	return api.Event{Kind: api.Bind, Name: prefix, Value: s}
}

func unbind(prefix string) api.Event { return api.Event{Kind: api.Unbind, Name: prefix} }

func attr(name, s string) api.Attr { return api.Attr{Name: name, Value: s} }

// in gives an event a space.
func in(space string, e api.Event) api.Event {
	e.Space = space
	return e
}

// attrIn is an attribute of a space.
func attrIn(space, name, s string) api.Attr {
	return api.Attr{Name: name, Space: space, Value: s}
}

func listOf(list ...api.Event) []api.Event { return list }

// inside lays events in an element.
func inside(list ...api.Event) []api.Event {
	return append(append(listOf(start("a")), list...), end("a"))
}

// plain has as much room as named, but no Names.
var plain = api.Options{Depth: 8, Attrs: 6, Token: 64}

// TestWritten: P13: how each kind of event is written.
func TestWritten(t *testing.T) {
	for _, c := range []struct {
		o    api.Options
		list []api.Event
		want string
	}{
		// the example of the document
		{usual, listOf(start("a", attr("b", "<\t")), text("x>\r"), comment("c"), end("a")), "<a b=\"&lt;&#9;\">x&gt;&#13;<!--c--></a>"},

		{usual, inside(), "<a></a>"},
		{usual, []api.Event{{Kind: api.Start, Name: "a", Attrs: []api.Attr{}}, {Kind: api.End, Name: "a", Attrs: []api.Attr{}}}, "<a></a>"},
		{usual, listOf(start("a", attr("b", "1"), attr("c", "")), end("a")), `<a b="1" c=""></a>`},
		{usual, inside(start("b"), end("b"), start("b", attr("a", "a")), start("c"), end("c"), end("b")), `<a><b></b><b a="a"><c></c></b></a>`},

		{usual, inside(text("<>&\r\n\t \"'x]]>")), "<a>&lt;&gt;&amp;&#13;\n\t \"'x]]&gt;</a>"},
		{usual, listOf(start("a", attr("b", "<>&\r\n\t \"'x]]>")), end("a")), `<a b="&lt;&gt;&amp;&#13;&#10;&#9; &quot;'x]]&gt;"></a>`},
		{usual, inside(text("\r\n\r")), "<a>&#13;\n&#13;</a>"},
		{usual, inside(text("&lt;&#13;<![CDATA[]]>")), "<a>&amp;lt;&amp;#13;&lt;![CDATA[]]&gt;</a>"},
		{usual, inside(text("é€😀\x7f")), "<a>é€😀\x7f</a>"},
		{usual, inside(text(" "), comment(""), text("\n")), "<a> <!---->\n</a>"},
		{usual, inside(text("</a>")), "<a>&lt;/a&gt;</a>"},

		{usual, listOf(comment("1"), start("a"), comment("2"), end("a"), comment("3"), comment("")), "<!--1--><a><!--2--></a><!--3--><!---->"},
		{usual, inside(comment("<&>\"'\n\t]]>?>->-x")), "<a><!--<&>\"'\n\t]]>?>->-x--></a>"},
		{usual, listOf(instruction("t", ""), start("a"), instruction("u", "x"), end("a"), instruction("v", "x ")), "<?t?><a><?u x?></a><?v x ?>"},
		{usual, inside(instruction("t", "<&>\"'\n\t-->]]>?")), "<a><?t <&>\"'\n\t-->]]>??></a>"},
		{usual, inside(instruction("xmlx", "?"), instruction("xm", "l"), instruction(":xml", "")), "<a><?xmlx ??><?xm l?><?:xml?></a>"},

		// without Names a declaration is an attribute as all others
		{usual, listOf(start("p:a", attr("xmlns", "u"), attr(":", ""), attr("q:b:c", "1"), attr("xmlns:p", "")), instruction("a:b", ""), end("p:a")), `<p:a xmlns="u" :="" q:b:c="1" xmlns:p=""><?a:b?></p:a>`},

		{named, inside(), "<a></a>"},
		{named, listOf(bind("", "u"), in("u", start("a")), in("u", end("a")), unbind("")), `<a xmlns="u"></a>`},
		{named, listOf(bind("", ""), start("a"), end("a"), unbind("")), `<a xmlns=""></a>`},
		{named, listOf(bind("p", "<>&\r\n\t \"'"), bind("", "\""), in("\"", start("a", attrIn("<>&\r\n\t \"'", "p:b", "1"), attr("c", "2"))), in("\"", end("a")), unbind(""), unbind("p")),
			`<a xmlns:p="&lt;&gt;&amp;&#13;&#10;&#9; &quot;'" xmlns="&quot;" p:b="1" c="2"></a>`},
		{named, listOf(bind("p", "u"), in("u", start("p:a")), text("x"), bind("p", "v"), in("v", start("p:b")), in("v", end("p:b")), unbind("p"), in("u", start("p:b")), in("u", end("p:b")), in("u", end("p:a")), unbind("p")),
			`<p:a xmlns:p="u">x<p:b xmlns:p="v"></p:b><p:b></p:b></p:a>`},
		{named, listOf(start("a", attrIn(xmlSpace, "xml:b", "")), in(xmlSpace, start("xml:c")), in(xmlSpace, end("xml:c")), end("a")), `<a xml:b=""><xml:c></xml:c></a>`},
		{named, listOf(bind("xml", xmlSpace), start("a"), end("a"), unbind("xml")), `<a xmlns:xml="` + xmlSpace + `"></a>`},
		{named, listOf(comment("c"), bind("p", "u"), start("a"), bind("q", "v"), bind("p", "v"), start("b"), end("b"), unbind("p"), unbind("q"), end("a"), unbind("p"), instruction("t", "")),
			`<!--c--><a xmlns:p="u"><b xmlns:q="v" xmlns:p="v"></b></a><?t?>`},
	} {
		if got, e := markup.Write(c.o, c.list); string(got) != c.want || e != api.OK {
			t.Errorf("P13: Write of %#v answers %q, %d; want %q", c.list, got, e, c.want)
		}
		if !mindWrite(t, c.o, c.list) {
			t.Errorf("P13: by the rules no text gives %#v", c.list)
		}
	}
}

// refusedLists: lists that no text gives, and each of them mended by a little.
var refusedLists = []struct {
	o            api.Options
	wrong, right []api.Event
}{
	// kinds that are none
	{usual, listOf(api.Event{}, start("a"), end("a")), inside()},
	{usual, inside(api.Event{}), inside()},
	{usual, inside(api.Event{Kind: 8}), inside()},
	{usual, inside(api.Event{Kind: -1}), inside()},
	{usual, inside(api.Event{Kind: least}), inside()},
	{usual, inside(api.Event{Kind: greatest}), inside()},
	{usual, append(inside(), api.Event{Kind: 8}), inside()},
	{named, inside(api.Event{Kind: 8, Name: "b", Value: "x"}), inside()},
	{usual, inside(api.Event{Kind: api.Start + 1<<32, Name: "b"}, end("b")), inside(start("b"), end("b"))},

	// fields that must be empty
	{usual, []api.Event{{Kind: api.Start, Name: "a", Value: "x"}, end("a")}, inside()},
	{usual, []api.Event{in("u", start("a")), end("a")}, inside()},
	{usual, []api.Event{in("u", start("a")), in("u", end("a"))}, inside()},
	{usual, []api.Event{start("a"), in("u", end("a"))}, inside()},
	{usual, []api.Event{start("a"), {Kind: api.End, Name: "a", Value: "x"}}, inside()},
	{usual, []api.Event{start("a", attr("b", "")), {Kind: api.End, Name: "a", Attrs: []api.Attr{attr("b", "")}}}, listOf(start("a", attr("b", "")), end("a"))},
	{usual, []api.Event{start("a"), {Kind: api.End, Name: "a", Attrs: []api.Attr{{}}}}, inside()},
	{usual, inside(api.Event{Kind: api.Text, Name: "b", Value: "x"}), inside(text("x"))},
	{usual, inside(in("u", text("x"))), inside(text("x"))},
	{usual, inside(api.Event{Kind: api.Text, Value: "x", Attrs: []api.Attr{{}}}), inside(text("x"))},
	{usual, inside(api.Event{Kind: api.Comment, Name: "b", Value: "x"}), inside(comment("x"))},
	{usual, inside(in("u", comment("x"))), inside(comment("x"))},
	{usual, inside(api.Event{Kind: api.Comment, Value: "x", Attrs: []api.Attr{{}}}), inside(comment("x"))},
	{usual, inside(in("u", instruction("t", ""))), inside(instruction("t", ""))},
	{usual, inside(api.Event{Kind: api.Instruction, Name: "t", Attrs: []api.Attr{attr("b", "")}}), inside(instruction("t", ""))},
	{usual, listOf(start("a", attrIn("u", "b", "")), end("a")), listOf(start("a", attr("b", "")), end("a"))},
	{named, listOf(in("u", bind("p", "u")), start("a"), end("a"), unbind("p")), listOf(bind("p", "u"), start("a"), end("a"), unbind("p"))},
	{named, listOf(api.Event{Kind: api.Bind, Name: "p", Value: "u", Attrs: []api.Attr{{}}}, start("a"), end("a"), unbind("p")), listOf(bind("p", "u"), start("a"), end("a"), unbind("p"))},
	{named, listOf(bind("p", "u"), start("a"), end("a"), api.Event{Kind: api.Unbind, Name: "p", Value: "u"}), listOf(bind("p", "u"), start("a"), end("a"), unbind("p"))},
	{named, listOf(bind("p", "u"), start("a"), end("a"), in("u", unbind("p"))), listOf(bind("p", "u"), start("a"), end("a"), unbind("p"))},
	{named, listOf(bind("p", "u"), start("a"), end("a"), api.Event{Kind: api.Unbind, Name: "p", Attrs: []api.Attr{{}}}), listOf(bind("p", "u"), start("a"), end("a"), unbind("p"))},

	// Text
	{usual, inside(text("")), inside()},
	{usual, inside(text("x"), text("y")), inside(text("xy"))},
	{usual, inside(text("x"), text("")), inside(text("x"))},
	{usual, inside(text(""), text("x")), inside(text("x"))},
	{usual, inside(text("x"), text("")), inside(text("x"), comment(""))},
	{usual, inside(text("x\x00")), inside(text("x"))},
	{usual, inside(text("\xc3"), comment(""), text("\xa9")), inside(text("é"))},
	{usual, inside(text("\xc3"), text("\xa9")), inside(text("é"))},
	{usual, inside(text("\xed\xa0\x80")), inside(text("\xed\x9f\xbf"))},
	{usual, inside(text("\xc0\x80")), inside(text("\xc2\x80"))},
	{usual, inside(text("\xef\xbf\xbe")), inside(text("\xef\xbf\xbd"))},
	{usual, inside(text("\xf4\x90\x80\x80")), inside(text("\xf4\x8f\xbf\xbf"))},

	// elements
	{usual, nil, inside()},
	{usual, listOf(), inside()},
	{usual, listOf(start("a")), inside()},
	{usual, listOf(end("a")), inside()},
	{usual, listOf(end("a"), start("a")), inside()},
	{usual, listOf(start("a"), end("b")), listOf(start("b"), end("b"))},
	{usual, listOf(start("a"), end("")), inside()},
	{usual, listOf(start("a"), end("a ")), inside()},
	{usual, listOf(start("a"), end("A")), inside()},
	{usual, listOf(start("a"), start("b"), end("a"), end("b")), inside(start("b"), end("b"))},
	{usual, inside(start("b")), inside(start("b"), end("b"))},
	{usual, inside(end("a")), inside()},
	{usual, append(inside(), inside()...), inside(inside()...)},
	{usual, append(inside(), start("b")), inside()},

	// outside of the outermost element
	{usual, append(inside(), text("x")), inside(text("x"))},
	{usual, append(inside(), text(" ")), inside(text(" "))},
	{usual, append(listOf(text("\n")), inside()...), inside(text("\n"))},
	{usual, append(listOf(text("")), inside()...), inside()},
	{usual, listOf(text("x")), inside(text("x"))},
	{usual, listOf(comment("x")), append(listOf(comment("x")), inside()...)},
	{usual, listOf(comment("x"), instruction("t", "")), append(inside(), comment("x"), instruction("t", ""))},

	// names
	{usual, listOf(start(""), end("")), inside()},
	{usual, listOf(start("9"), end("9")), listOf(start("_9"), end("_9"))},
	{usual, listOf(start("a b"), end("a b")), inside()},
	{usual, listOf(start("a "), end("a")), inside()},
	{usual, listOf(start("a/"), end("a/")), inside()},
	{usual, listOf(start("a/"), end("a")), inside()},
	{usual, listOf(start("a>"), end("a")), inside()},
	{usual, listOf(start("a b=\"\""), end("a")), listOf(start("a", attr("b", "")), end("a"))},
	{usual, listOf(start("a><b"), end("b"), end("a")), inside(start("b"), end("b"))},
	{usual, listOf(start("a"), start("b"), end("b></a")), inside(start("b"), end("b"))},
	{usual, listOf(start("!----><a"), end("a")), inside()},
	{usual, listOf(start("é"), end("é")), inside()},
	{usual, listOf(start("a\x00"), end("a\x00")), inside()},
	{usual, listOf(start(long+"a"), end(long+"a")), listOf(start(long), end(long))},
	{usual, listOf(start("a", attr("", "")), end("a")), listOf(start("a", attr(":", "")), end("a"))},
	{usual, listOf(start("a", attr("-b", "")), end("a")), listOf(start("a", attr("b-", "")), end("a"))},
	{usual, listOf(start("a", attr("b ", "")), end("a")), listOf(start("a", attr("b", "")), end("a"))},
	{usual, listOf(start("a", attr("\nb", "")), end("a")), listOf(start("a", attr("b", "")), end("a"))},
	{usual, listOf(start("a", attr("b=\"\" c", "")), end("a")), listOf(start("a", attr("b", ""), attr("c", "")), end("a"))},
	{usual, listOf(start("a", attr(long+"a", "")), end("a")), listOf(start("a", attr(long, "")), end("a"))},
	{usual, inside(instruction("", "")), inside(instruction("_", ""))},
	{usual, inside(instruction("", "t")), inside(instruction("t", ""))},
	{usual, inside(instruction("t ", "")), inside(instruction("t", ""))},
	{usual, inside(instruction("t x", "")), inside(instruction("t", "x"))},
	{usual, inside(instruction("t?><?u", "")), inside(instruction("t", ""), instruction("u", ""))},
	{usual, inside(instruction("xml", "")), inside(instruction("xmlx", ""))},
	{usual, inside(instruction("XmL", "x")), inside(instruction("Xm", "Lx"))},
	{usual, inside(instruction(long+"a", "")), inside(instruction(long, full))},

	// values and attributes
	{usual, listOf(start("a", attr("b", "1"), attr("b", "2")), end("a")), listOf(start("a", attr("b", "1"), attr("B", "2")), end("a"))},
	{usual, listOf(start("a", attr("b", ""), attr("c", ""), attr("b", "")), end("a")), listOf(start("a", attr("b", ""), attr("c", ""), attr("bb", "")), end("a"))},
	{usual, listOf(start("a", attr(long, ""), attr(long, "")), end("a")), listOf(start("a", attr(long, ""), attr(fewerLetters, "")), end("a"))},
	{usual, listOf(start("a", attr("b", full+"x")), end("a")), listOf(start("a", attr("b", full)), end("a"))},
	{usual, listOf(start("a", attr("b", many("€", 17))), end("a")), listOf(start("a", attr("b", many("€", 16))), end("a"))},
	{usual, listOf(start("a", attr("b", many("<", 17))), end("a")), listOf(start("a", attr("b", many("<", 16))), end("a"))},
	{usual, listOf(start("a", attr("b", "\x01")), end("a")), listOf(start("a", attr("b", "\t")), end("a"))},
	{usual, listOf(start("a", attr("b", "\xff")), end("a")), listOf(start("a", attr("b", "\u00ff")), end("a"))},
	{usual, listOf(start("a", attr("b", "\xe2\x82")), end("a")), listOf(start("a", attr("b", "\xe2\x82\xac")), end("a"))},
	{usual, listOf(start("a", attr("b", ""), attr("c", ""), attr("d", ""), attr("e", ""), attr("f", "")), end("a")), listOf(start("a", attr("b", ""), attr("c", ""), attr("d", ""), attr("e", "")), end("a"))},

	// comments
	{usual, inside(comment("--")), inside(comment("-x"))},
	{usual, inside(comment("x--x")), inside(comment("x-x-x"))},
	{usual, inside(comment("-")), inside(comment("- "))},
	{usual, inside(comment("x-")), inside(comment("-x"))},
	{usual, inside(comment("x--><!--y")), inside(comment("x"), comment("y"))},
	{usual, inside(comment("x\r")), inside(comment("x\n"))},
	{usual, inside(comment("\r\n")), inside(comment("\n"))},
	{usual, inside(comment("\x1f")), inside(comment("\x20"))},
	{usual, inside(comment("\x80")), inside(comment("\u0080"))},
	{usual, inside(comment(full + "x")), inside(comment(full))},
	{usual, listOf(comment(many("é", 17)), start("a"), end("a")), listOf(comment(many("é", 16)), start("a"), end("a"))},

	// instructions
	{usual, inside(instruction("t", " ")), inside(instruction("t", ""))},
	{usual, inside(instruction("t", " x")), inside(instruction("t", "x "))},
	{usual, inside(instruction("t", "\tx")), inside(instruction("t", "x\t"))},
	{usual, inside(instruction("t", "\nx")), inside(instruction("t", "x\n"))},
	{usual, inside(instruction("t", "\rx")), inside(instruction("t", "x\n"))},
	{usual, inside(instruction("t", "x\r")), inside(instruction("t", "x\n"))},
	{usual, inside(instruction("t", "?>")), inside(instruction("t", "? >"))},
	{usual, inside(instruction("t", "x??>y")), inside(instruction("t", "x??y>"))},
	{usual, inside(instruction("t", "\ufffe")), inside(instruction("t", "\ufffd"))},
	{usual, inside(instruction("t", full+"x")), inside(instruction("t", full))},
	{usual, inside(instruction("t", fewer+"??")), inside(instruction("t", fewer+"?"))},

	// how deep elements lie
	{api.Options{Depth: 1, Token: 8}, inside(start("b"), end("b")), inside()},
	{api.Options{Depth: 2, Token: 8}, inside(inside(inside()...)...), inside(append(inside(), inside()...)...)},
	{api.Options{Depth: 1, Token: 8}, listOf(start("a", attr("b", "")), end("a")), inside()},

	// Bind and Unbind without Names
	{plain, listOf(bind("p", "u"), start("a"), end("a"), unbind("p")), listOf(start("a", attr("xmlns:p", "u")), end("a"))},
	{plain, listOf(bind("p", "u"), start("a", attr("xmlns:p", "u")), end("a")), listOf(start("a", attr("xmlns:p", "u")), end("a"))},
	{plain, listOf(bind("", ""), start("a"), end("a"), unbind("")), inside()},
	{plain, inside(bind("p", "u")), inside()},
	{plain, append(inside(), unbind("")), inside()},
	{plain, append(inside(), unbind("p")), inside()},
	{plain, listOf(unbind(""), start("a"), end("a")), inside()},
	{plain, listOf(start("p:a", attrIn("u", "p:b", "")), end("p:a")), listOf(start("p:a", attr("p:b", "")), end("p:a"))},
	{plain, listOf(start("a", attrIn(xmlSpace, "xml:b", "")), end("a")), listOf(start("a", attr("xml:b", "")), end("a"))},

	// Binds and Unbinds that are missing, too many, in another order or at another place
	{named, listOf(bind("p", "u"), start("a"), end("a")), listOf(bind("p", "u"), start("a"), end("a"), unbind("p"))},
	{named, listOf(start("a"), end("a"), unbind("p")), inside()},
	{named, listOf(bind("p", "u"), start("a"), end("a"), unbind("p"), unbind("p")), listOf(bind("p", "u"), start("a"), end("a"), unbind("p"))},
	{named, listOf(bind("p", "u"), start("a"), end("a"), unbind("q")), listOf(bind("p", "u"), start("a"), end("a"), unbind("p"))},
	{named, listOf(bind("p", "u"), start("a"), end("a"), unbind("")), listOf(bind("p", "u"), start("a"), end("a"), unbind("p"))},
	{named, listOf(bind("p", "u"), bind("q", "v"), start("a"), end("a"), unbind("p"), unbind("q")), listOf(bind("p", "u"), bind("q", "v"), start("a"), end("a"), unbind("q"), unbind("p"))},
	{named, listOf(bind("p", "u"), bind("q", "v"), start("a"), end("a"), unbind("q")), listOf(bind("q", "v"), start("a"), end("a"), unbind("q"))},
	{named, listOf(bind("p", "u"), bind("p", "u"), start("a"), end("a"), unbind("p"), unbind("p")), listOf(bind("p", "u"), start("a"), end("a"), unbind("p"))},
	{named, listOf(bind("", "u"), bind("", ""), start("a"), end("a"), unbind(""), unbind("")), listOf(bind("", ""), start("a"), end("a"), unbind(""))},
	{named, listOf(bind("p", "u"), start("a"), unbind("p"), end("a")), listOf(bind("p", "u"), start("a"), end("a"), unbind("p"))},
	{named, listOf(start("a"), bind("p", "u"), end("a"), unbind("p")), listOf(bind("p", "u"), start("a"), end("a"), unbind("p"))},
	{named, listOf(bind("p", "u"), comment(""), start("a"), end("a"), unbind("p")), listOf(comment(""), bind("p", "u"), start("a"), end("a"), unbind("p"))},
	{named, listOf(bind("p", "u"), instruction("t", ""), bind("q", "u"), start("a"), end("a"), unbind("q"), unbind("p")), listOf(bind("p", "u"), bind("q", "u"), start("a"), end("a"), unbind("q"), unbind("p"))},
	{named, inside(bind("p", "u"), text("x"), start("b"), end("b"), unbind("p")), inside(text("x"), bind("p", "u"), start("b"), end("b"), unbind("p"))},
	{named, listOf(bind("p", "u"), start("a"), end("a"), comment(""), unbind("p")), listOf(bind("p", "u"), start("a"), end("a"), unbind("p"), comment(""))},
	{named, inside(bind("p", "u"), start("b"), end("b"), text("x"), unbind("p")), inside(bind("p", "u"), start("b"), end("b"), unbind("p"), text("x"))},
	{named, listOf(bind("p", "u"), start("a"), start("b"), end("b"), unbind("p"), end("a")), listOf(bind("p", "u"), start("a"), start("b"), end("b"), end("a"), unbind("p"))},
	{named, append(inside(), bind("p", "u")), inside()},
	{named, append(inside(), bind("p", "u"), unbind("p")), inside()},
	{named, inside(bind("p", "u"), unbind("p")), inside()},
	{named, listOf(bind("p", "u")), inside()},
	{named, inside(unbind("")), inside()},

	// Binds of declarations that are none, or that are wrong
	{named, listOf(start("a", attr("xmlns", "u")), end("a")), listOf(bind("", "u"), in("u", start("a")), in("u", end("a")), unbind(""))},
	{named, listOf(bind("", "u"), in("u", start("a", attr("xmlns", "u"))), in("u", end("a")), unbind("")), listOf(bind("", "u"), in("u", start("a")), in("u", end("a")), unbind(""))},
	{named, listOf(start("a", attr("xmlns:p", "u")), end("a")), listOf(bind("p", "u"), start("a"), end("a"), unbind("p"))},
	{named, listOf(bind("p", ""), start("a"), end("a"), unbind("p")), listOf(bind("", ""), start("a"), end("a"), unbind(""))},
	{named, listOf(bind("xml", "u"), start("a"), end("a"), unbind("xml")), listOf(bind("xml", xmlSpace), start("a"), end("a"), unbind("xml"))},
	{named, listOf(bind("xmlns", "u"), start("a"), end("a"), unbind("xmlns")), listOf(bind("xmlnsx", "u"), start("a"), end("a"), unbind("xmlnsx"))},
	{named, listOf(bind("xmlns", declSpace), start("a"), end("a"), unbind("xmlns")), listOf(bind("xmlnsx", "u"), start("a"), end("a"), unbind("xmlnsx"))},
	{named, listOf(bind("p", xmlSpace), start("a"), end("a"), unbind("p")), listOf(bind("p", xmlSpace+"/"), start("a"), end("a"), unbind("p"))},
	{named, listOf(bind("", xmlSpace), in(xmlSpace, start("a")), in(xmlSpace, end("a")), unbind("")), listOf(start("a"), end("a"))},
	{named, listOf(bind("p", declSpace), start("a"), end("a"), unbind("p")), listOf(bind("p", declSpace[1:]), start("a"), end("a"), unbind("p"))},
	{named, listOf(bind("p:q", "u"), start("a"), end("a"), unbind("p:q")), listOf(bind("p", "u"), start("a"), end("a"), unbind("p"))},
	{named, listOf(bind(":", "u"), start("a"), end("a"), unbind(":")), listOf(bind("_", "u"), start("a"), end("a"), unbind("_"))},
	{named, listOf(bind("9", "u"), start("a"), end("a"), unbind("9")), listOf(bind("p9", "u"), start("a"), end("a"), unbind("p9"))},
	{named, listOf(bind("p q", "u"), start("a"), end("a"), unbind("p q")), listOf(bind("pq", "u"), start("a"), end("a"), unbind("pq"))},
	{named, listOf(bind("p=\"u\" xmlns:q", "v"), start("a"), end("a"), unbind("q"), unbind("p")), listOf(bind("p", "u"), bind("q", "v"), start("a"), end("a"), unbind("q"), unbind("p"))},
	{named, listOf(bind("p", "\x00"), start("a"), end("a"), unbind("p")), listOf(bind("p", "\n"), start("a"), end("a"), unbind("p"))},
	{named, listOf(bind("p", many("u", 65)), start("a"), end("a"), unbind("p")), listOf(bind("p", many("u", 64)), start("a"), end("a"), unbind("p"))},
	{named, listOf(bind(many("p", 59), "u"), start("a"), end("a"), unbind(many("p", 59))), listOf(bind(many("p", 58), "u"), start("a"), end("a"), unbind(many("p", 58)))},
	{api.Options{Depth: 1, Attrs: 2, Token: 8, Names: true}, listOf(bind("p", "u"), bind("", "u"), in("u", start("a", attr("b", ""))), in("u", end("a")), unbind(""), unbind("p")),
		listOf(bind("p", "u"), bind("", "u"), in("u", start("a")), in("u", end("a")), unbind(""), unbind("p"))},
	{api.Options{Depth: 1, Attrs: 0, Token: 8, Names: true}, listOf(bind("", ""), start("a"), end("a"), unbind("")), inside()},

	// names with prefixes, and spaces
	{named, listOf(start("p:a"), end("p:a")), listOf(bind("p", "u"), in("u", start("p:a")), in("u", end("p:a")), unbind("p"))},
	{named, listOf(in("u", start("p:a")), in("u", end("p:a"))), listOf(bind("p", "u"), in("u", start("p:a")), in("u", end("p:a")), unbind("p"))},
	{named, listOf(in("u", start("a")), in("u", end("a"))), inside()},
	{named, listOf(bind("", "u"), start("a"), end("a"), unbind("")), listOf(bind("", "u"), in("u", start("a")), in("u", end("a")), unbind(""))},
	{named, listOf(bind("", "u"), in("u", start("a")), end("a"), unbind("")), listOf(bind("", "u"), in("u", start("a")), in("u", end("a")), unbind(""))},
	{named, listOf(bind("", "u"), in("v", start("a")), in("v", end("a")), unbind("")), listOf(bind("", "v"), in("v", start("a")), in("v", end("a")), unbind(""))},
	{named, listOf(bind("p", "u"), in("u", start("a")), in("u", end("a")), unbind("p")), listOf(bind("p", "u"), start("a"), end("a"), unbind("p"))},
	{named, listOf(bind("p", "u"), start("p:a"), end("p:a"), unbind("p")), listOf(bind("p", "u"), in("u", start("p:a")), in("u", end("p:a")), unbind("p"))},
	{named, listOf(bind("p", "u"), start("a", attr("p:b", "")), end("a"), unbind("p")), listOf(bind("p", "u"), start("a", attrIn("u", "p:b", "")), end("a"), unbind("p"))},
	{named, listOf(bind("p", "u"), start("a", attrIn("p", "p:b", "")), end("a"), unbind("p")), listOf(bind("p", "u"), start("a", attrIn("u", "p:b", "")), end("a"), unbind("p"))},
	{named, listOf(bind("", "u"), in("u", start("a", attrIn("u", "b", ""))), in("u", end("a")), unbind("")), listOf(bind("", "u"), in("u", start("a", attr("b", ""))), in("u", end("a")), unbind(""))},
	{named, listOf(start("a", attr("xml:b", "")), end("a")), listOf(start("a", attrIn(xmlSpace, "xml:b", "")), end("a"))},
	{named, listOf(start("xml:a"), end("xml:a")), listOf(in(xmlSpace, start("xml:a")), in(xmlSpace, end("xml:a")))},
	{named, listOf(in(declSpace, start("xmlns:a")), in(declSpace, end("xmlns:a"))), listOf(start("xmlns"), end("xmlns"))},
	{named, inside(bind("p", "u"), start("b"), end("b"), unbind("p"), in("u", start("p:b")), in("u", end("p:b"))), inside(bind("p", "u"), start("b"), in("u", start("p:b")), in("u", end("p:b")), end("b"), unbind("p"))},
	{named, listOf(bind("p", "u"), start("a"), bind("p", "v"), in("u", start("p:b")), in("u", end("p:b")), unbind("p"), end("a"), unbind("p")),
		listOf(bind("p", "u"), start("a"), bind("p", "v"), in("v", start("p:b")), in("v", end("p:b")), unbind("p"), end("a"), unbind("p"))},
	{named, listOf(bind("p", "u"), bind("q", "u"), in("u", start("p:a")), in("u", end("q:a")), unbind("q"), unbind("p")),
		listOf(bind("p", "u"), bind("q", "u"), in("u", start("p:a")), in("u", end("p:a")), unbind("q"), unbind("p"))},
	{named, listOf(bind("p", "u"), bind("q", "u"), start("a", attrIn("u", "p:b", ""), attrIn("u", "q:b", "")), end("a"), unbind("q"), unbind("p")),
		listOf(bind("p", "u"), bind("q", "v"), start("a", attrIn("u", "p:b", ""), attrIn("v", "q:b", "")), end("a"), unbind("q"), unbind("p"))},
	{named, listOf(start(":a"), end(":a")), inside()},
	{named, listOf(bind("p", "u"), in("u", start("p:")), in("u", end("p:")), unbind("p")), listOf(bind("p", "u"), in("u", start("p:_")), in("u", end("p:_")), unbind("p"))},
	{named, listOf(bind("p", "u"), in("u", start("p:a:b")), in("u", end("p:a:b")), unbind("p")), listOf(bind("p", "u"), in("u", start("p:ab")), in("u", end("p:ab")), unbind("p"))},
	{named, listOf(start("a", attr("b:", "")), end("a")), listOf(start("a", attr("b", "")), end("a"))},
	{named, inside(instruction("a:b", "")), inside(instruction("ab", ":"))},
	{named, inside(instruction(":", "x")), inside(instruction("_", "x"))},
}

const fewerLetters = "abcdefghijklmno"

// TestRefusedLists: P13: each way in which a list is one that no text gives.
func TestRefusedLists(t *testing.T) {
	for i, c := range refusedLists {
		if got, e := markup.Write(c.o, c.wrong); len(got) != 0 || e != api.ErrEvent {
			t.Errorf("P13: list %d: Write of %#v answers %q, %d", i, c.wrong, got, e)
		}
		if mindWrite(t, c.o, c.wrong) {
			t.Errorf("P13: list %d: by the rules a text gives %#v", i, c.wrong)
		}
		if !mindWrite(t, c.o, c.right) {
			t.Errorf("P13: list %d: by the rules no text gives %#v", i, c.right)
		}
	}
}

// TestWriteOptions: P13: options that are none come ahead of all that is wrong with the list.
func TestWriteOptions(t *testing.T) {
	for _, n := range []int{least, -1, 0, 65, greatest} {
		noWrite(t, api.Options{Depth: n, Attrs: 4, Token: 16})
	}
	for _, n := range []int{least, -1, 33, greatest} {
		noWrite(t, api.Options{Depth: 8, Attrs: n, Token: 16})
	}
	for _, n := range []int{least, -1, 0, 7, 1025, greatest} {
		noWrite(t, api.Options{Depth: 8, Attrs: 4, Token: n})
	}
	noWrite(t, api.Options{})
}

func noWrite(t *testing.T, o api.Options) {
	t.Helper()
	for _, names := range []bool{false, true} {
		o.Names = names
		for _, list := range [][]api.Event{nil, inside(), listOf(start("a")), {{Kind: 8}}} {
			if got, e := markup.Write(o, list); len(got) != 0 || e != api.ErrOptions {
				t.Errorf("P13: Write of %+v and %#v answers %q, %d", o, list, got, e)
			}
		}
	}
}
