package markup_test

import (
	"fmt"
	"math/rand"
	"strings"
	"testing"

	"markup/api"
)

var named = api.Options{Depth: 8, Attrs: 6, Token: 64, Names: true}

const (
	xmlSpace  = "http://www.w3.org/XML/1998/namespace"
	declSpace = "http://www.w3.org/2000/xmlns/"
)

// namedSamples: texts with Names, and what they are answered.
var namedSamples = []sample{
	// the examples of the document
	{`<p:a xmlns:p="u" p:b="1" c="2"/>`, `Bind p "u"; Start p:a of "u" p:b="1" of "u" c="2"; End p:a of "u"; Unbind p`, api.OK, api.OK, all},
	{"<p:a/>", ``, api.ErrSpace, api.ErrSpace, 5},

	// no names with prefixes
	{"<a b='1'>x</a>", `Start a b="1"; Text "x"; End a`, api.OK, api.OK, all},
	{"<xmlns b=''/>", `Start xmlns b=""; End xmlns`, api.OK, api.OK, all},
	{"<xml xml='' xmlnsx='' XMLNS='' Xmlns=''/>", `Start xml xml="" xmlnsx="" XMLNS="" Xmlns=""; End xml`, api.OK, api.OK, all},
	{"<?xmlns :?><a>:&#58;<![CDATA[:]]><!--a:b--></a>", `Instruction xmlns ":"; Start a; Text ":::"; Comment "a:b"; End a`, api.OK, api.OK, all},

	// the empty prefix
	{"<a xmlns='u' b='1'><c/></a>", `Bind "u"; Start a of "u" b="1"; Start c of "u"; End c of "u"; End a of "u"; Unbind`, api.OK, api.OK, all},
	{"<a><b xmlns='u'><c xmlns=''><d/></c><e/></b><f/></a>",
		`Start a; Bind "u"; Start b of "u"; Bind ""; Start c; Start d; End d; End c; Unbind; Start e of "u"; End e of "u"; End b of "u"; Unbind; Start f; End f; End a`, api.OK, api.OK, all},
	{"<a xmlns=''/>", `Bind ""; Start a; End a; Unbind`, api.OK, api.OK, all},
	{"<a xmlns='u'><xml xmlns:p='v'/></a>", `Bind "u"; Start a of "u"; Bind p "v"; Start xml of "u"; End xml of "u"; Unbind p; End a of "u"; Unbind`, api.OK, api.OK, all},

	// prefixes, and in which elements they are bound
	{"<a xmlns:p='u'><p:b p:c='1'></p:b></a>", `Bind p "u"; Start a; Start p:b of "u" p:c="1" of "u"; End p:b of "u"; End a; Unbind p`, api.OK, api.OK, all},
	{"<a p:b='1' xmlns:p='u'></a>", `Bind p "u"; Start a p:b="1" of "u"; End a; Unbind p`, api.OK, api.OK, all},
	{"<p:a xmlns:p='u'><p:a xmlns:p='v'><p:a/></p:a><p:a p:a=''/></p:a>",
		`Bind p "u"; Start p:a of "u"; Bind p "v"; Start p:a of "v"; Start p:a of "v"; End p:a of "v"; End p:a of "v"; Unbind p; Start p:a of "u" p:a="" of "u"; End p:a of "u"; End p:a of "u"; Unbind p`, api.OK, api.OK, all},
	{"<a xmlns:p='u' xmlns:q='v' xmlns='w' q:b='1' p:b='2' b='3'><p:c/><q:c/><c/></a>",
		`Bind p "u"; Bind q "v"; Bind "w"; Start a of "w" q:b="1" of "v" p:b="2" of "u" b="3"; Start p:c of "u"; End p:c of "u"; Start q:c of "v"; End q:c of "v"; Start c of "w"; End c of "w"; End a of "w"; Unbind; Unbind q; Unbind p`, api.OK, api.OK, all},
	{"<q:a b='' xmlns:q='v' c='' xmlns='u' xmlns:p='w'/>", `Bind q "v"; Bind "u"; Bind p "w"; Start q:a of "v" b="" c=""; End q:a of "v"; Unbind p; Unbind; Unbind q`, api.OK, api.OK, all},
	{"<a xmlns:p='u'><b xmlns:p='v' xmlns:q='w'/><c p:d=''/></a>",
		`Bind p "u"; Start a; Bind p "v"; Bind q "w"; Start b; End b; Unbind q; Unbind p; Start c p:d="" of "u"; End c; End a; Unbind p`, api.OK, api.OK, all},
	{"<a><b xmlns:p='u'/>x<p:c />", `Start a; Bind p "u"; Start b; End b; Unbind p; Text "x"`, api.ErrSpace, api.ErrSpace, 26},
	{"<a><b xmlns:p='u'></b><p:c>", `Start a; Bind p "u"; Start b; End b; Unbind p`, api.ErrSpace, api.ErrSpace, 27},
	{"<a xmlns:p='u'><b><c><p:d/></c></b></a>", `Bind p "u"; Start a; Start b; Start c; Start p:d of "u"; End p:d of "u"; End c; End b; End a; Unbind p`, api.OK, api.OK, all},

	// the prefixes "xml" and "xmlns", and the values of their own
	{"<a xml:b='1'><xml:c/></a>", `Start a xml:b="1" of "` + xmlSpace + `"; Start xml:c of "` + xmlSpace + `"; End xml:c of "` + xmlSpace + `"; End a`, api.OK, api.OK, all},
	{"<a xmlns:xml='" + xmlSpace + "'><xml:b/></a>",
		`Bind xml "` + xmlSpace + `"; Start a; Start xml:b of "` + xmlSpace + `"; End xml:b of "` + xmlSpace + `"; End a; Unbind xml`, api.OK, api.OK, all},
	{"<a xmlns:xml='" + xmlSpace + "'/><?t?>", `Bind xml "` + xmlSpace + `"; Start a; End a; Unbind xml; Instruction t`, api.OK, api.OK, all},
	{"<a b='" + xmlSpace + "' c='" + declSpace + "'/>", `Start a b="` + xmlSpace + `" c="` + declSpace + `"; End a`, api.OK, api.OK, all},
	{"<a xmlns:xmlnsx='u' xmlns:xmlx='v' xmlnsx:b='' xmlx:b=''/>", `Bind xmlnsx "u"; Bind xmlx "v"; Start a xmlnsx:b="" of "u" xmlx:b="" of "v"; End a; Unbind xmlx; Unbind xmlnsx`, api.OK, api.OK, all},

	// values of declarations are values as all others
	{"<a xmlns:p='&#9;\n&lt;\r\n&#x20AC;'><p:b/></a>", `Bind p "\t < €"; Start a; Start p:b of "\t < €"; End p:b of "\t < €"; End a; Unbind p`, api.OK, api.OK, all},
	{"<a xmlns:p = \"'\" xmlns\t=\r\n' '/>", `Bind p "'"; Bind " "; Start a of " "; End a of " "; Unbind; Unbind p`, api.OK, api.OK, all},
	{"<a xmlns:p='http&#58;//www.w3.org/2000/xmlns/'/>", ``, api.ErrSpace, api.ErrSpace, 47},
	{"<a xmlns:xml='http&#58;//www.w3.org/XML/1998/namespace' />", `Bind xml "` + xmlSpace + `"; Start a; End a; Unbind xml`, api.OK, api.OK, all},

	// attributes of one space and local part
	{"<a xmlns:p='u' xmlns='u' p:b='' b=''/>", `Bind p "u"; Bind "u"; Start a of "u" p:b="" of "u" b=""; End a of "u"; Unbind; Unbind p`, api.OK, api.OK, all},
	{"<a xmlns:p='u' xmlns:q='u' p:b='' q:c='' c='' xmlns:b='x'/>", `Bind p "u"; Bind q "u"; Bind b "x"; Start a p:b="" of "u" q:c="" of "u" c=""; End a; Unbind b; Unbind q; Unbind p`, api.OK, api.OK, all},
	{"<a xmlns:p='u' xmlns:q='u'><b p:c='' q:c=''/></a>", `Bind p "u"; Bind q "u"; Start a`, api.ErrSpace, api.ErrSpace, 44},
	{"<a xmlns:p='u' xmlns:q='u'><b xmlns:q='v' p:c='' q:c=''/></a>", `Bind p "u"; Bind q "u"; Start a; Bind q "v"; Start b p:c="" of "u" q:c="" of "v"; End b; Unbind q; End a; Unbind q; Unbind p`, api.OK, api.OK, all},

	// where the wrong byte stands
	{"<p:a", ``, api.OK, api.ErrEarly, all},
	{"<p:a b='/>' \n", ``, api.OK, api.ErrEarly, all},
	{"<p:a b='/>' \n/>", ``, api.ErrSpace, api.ErrSpace, 14},
	{"<p:a b=''>", ``, api.ErrSpace, api.ErrSpace, 10},
	{"<p:a\r\n>", ``, api.ErrSpace, api.ErrSpace, 7},
	{"<p:a/x", ``, api.ErrSpace, api.ErrSpace, 5},
	{"<p:a xmlns:p='u'/x", ``, api.ErrSyntax, api.ErrSyntax, 18},
	{"<a xmlns:p='u'/", ``, api.OK, api.ErrEarly, all},
	{"<?a:b?>", ``, api.ErrSpace, api.ErrSpace, 6},
	{"<?a:b\r\nx?>", ``, api.ErrSpace, api.ErrSpace, 6},
	{"<?:?>", ``, api.ErrSpace, api.ErrSpace, 4},
	{"<?xml:a?>", ``, api.ErrSpace, api.ErrSpace, 8},
	{"<?a:b", ``, api.OK, api.ErrEarly, all},
	{"<a><?a:>", `Start a`, api.ErrSyntax, api.ErrSyntax, 8},
	{"<a/><?a: ?>", `Start a; End a`, api.ErrSpace, api.ErrSpace, 9},
	{"<?xml ?>", ``, api.ErrSyntax, api.ErrSyntax, 6},

	// what is hopeless has its own error, though the names are wrong too
	{"<p:a b/", ``, api.ErrSyntax, api.ErrSyntax, 7},
	{"<p:a =", ``, api.ErrSyntax, api.ErrSyntax, 6},
	{"<a xmlns:p='u' xmlns:p='v'/>", ``, api.ErrTwice, api.ErrTwice, 23},
	{"<a xmlns='' xmlns=''/>", ``, api.ErrTwice, api.ErrTwice, 18},
	{"<a p:b='' p:b=''/>", ``, api.ErrTwice, api.ErrTwice, 14},
	{"<a p:b='<", ``, api.ErrSyntax, api.ErrSyntax, 9},
	{"<a xmlns:p='u'></p:a>", `Bind p "u"; Start a`, api.ErrMatch, api.ErrMatch, 18},
	{"<p:a xmlns:p='u'></a>", `Bind p "u"; Start p:a of "u"`, api.ErrMatch, api.ErrMatch, 20},
	{"<p:a xmlns:p='u' xmlns:q='u'></q:a>", `Bind p "u"; Bind q "u"; Start p:a of "u"`, api.ErrMatch, api.ErrMatch, 32},

	// declarations are attributes to the bounds
	{"<a xmlns='' xmlns:b='1' xmlns:c='1' xmlns:d='1' xmlns:e='1' xmlns:f='1'></a>",
		`Bind ""; Bind b "1"; Bind c "1"; Bind d "1"; Bind e "1"; Bind f "1"; Start a; End a; Unbind f; Unbind e; Unbind d; Unbind c; Unbind b; Unbind`, api.OK, api.OK, all},
	{"<a xmlns:b='1' xmlns:c='1' xmlns:d='1' xmlns:e='1' f='' g='' h=''/>", ``, api.ErrLimit, api.ErrLimit, 62},
	{"<a xmlns='1234567890123456789012345678901234567890123456789012345678901234'/>",
		`Bind "1234567890123456789012345678901234567890123456789012345678901234"; Start a of "1234567890123456789012345678901234567890123456789012345678901234"; End a of "1234567890123456789012345678901234567890123456789012345678901234"; Unbind`, api.OK, api.OK, all},
	{"<a xmlns='1234567890123456789012345678901234567890123456789012345678901234&#65;'/>", ``, api.ErrLimit, api.ErrLimit, 75},
}

// given: a sample and its options.
type given struct {
	sample
	o api.Options
}

// everySample: the samples without Names; those in which they make no difference, with them; and the ones with Names.
func everySample() []given {
	var list []given
	withNames := usual
	withNames.Names = true
	for _, s := range samples {
		list = append(list, given{s, usual})
		if !strings.Contains(s.text, ":") {
			list = append(list, given{s, withNames})
		}
	}
	for _, s := range namedSamples {
		list = append(list, given{s, named})
	}
	return list
}

// TestNamedSamplesByTheRules: the samples themselves, against P11 and P12 as they are once more in naming_test.go.
func TestNamedSamplesByTheRules(t *testing.T) {
	for _, s := range namedSamples {
		if got := outcomeWithNames(t, named, s.text); got != s.want() {
			t.Errorf("%q:\n by the rules %+v\nwant %+v", s.text, got, s.want())
		}
	}
}

// wrongTags: start tags but for what ends them: with a wrong name or declaration, and the same mended.
var wrongTags = []struct{ wrong, right string }{
	// names that are not qualified
	{"<:a", "<a"},
	{"<:", "<a"},
	{"<a:", "<a"},
	{"<::a", "<a"},
	{"<p:a:b xmlns:p='u'", "<p:ab xmlns:p='u'"},
	{"<p::a xmlns:p='u'", "<p:a xmlns:p='u'"},
	{"<p:a: xmlns:p='u'", "<p:a xmlns:p='u'"},
	{"<p:9 xmlns:p='u'", "<p:a9 xmlns:p='u'"},
	{"<p:-a xmlns:p='u'", "<p:_-a xmlns:p='u'"},
	{"<p:.a xmlns:p='u'", "<p:Z.a xmlns:p='u'"},
	{"<a :b=''", "<a b=''"},
	{"<a :=''", "<a _=''"},
	{"<a xml:=''", "<a xml:_=''"},
	{"<a xmlns:p='u' p:9=''", "<a xmlns:p='u' p:_9=''"},
	{"<a xmlns:p='u' p:.=''", "<a xmlns:p='u' p:_.=''"},
	{"<a xmlns:p='u' p:-b=''", "<a xmlns:p='u' p:z-b=''"},
	{"<a xmlns:p='u' b='' p:b:c=''", "<a xmlns:p='u' b='' p:b=''"},
	{"<a b='' p::b='' xmlns:p='u'", "<a b='' p:A='' xmlns:p='u'"},
	{"<a xmlns:='u'", "<a xmlns:p='u'"},
	{"<a :xmlns='u'", "<a xmlns='u'"},
	{"<a xmlns:9='u'", "<a xmlns:p9='u'"},
	{"<a xmlns:p:q='u'", "<a xmlns:p='u'"},
	{"<a xml:b:c=''", "<a xml:b=''"},

	// declarations that are wrong
	{"<a xmlns:xmlns='u'", "<a xmlns:xmln='u'"},
	{"<a xmlns:xmlns='" + declSpace + "'", "<a xmlns:xmlnsx='" + declSpace + "x'"},
	{"<a xmlns:xmlns='" + xmlSpace + "'", "<a xmlns:xml='" + xmlSpace + "'"},
	{"<a xmlns:xmlns=''", "<a xmlns=''"},
	{"<a xmlns:xml='u'", "<a xmlns:xm='u'"},
	{"<a xmlns:xml=''", "<a xmlns=''"},
	{"<a xmlns:xml='" + xmlSpace + "/'", "<a xmlns:xml='" + xmlSpace + "'"},
	{"<a xmlns:xml='" + xmlSpace[:35] + "'", "<a xmlns:xml='" + xmlSpace + "'"},
	{"<a xmlns:xml='" + declSpace + "'", "<a xmlns:xml='" + xmlSpace + "'"},
	{"<a xmlns:p='" + xmlSpace + "'", "<a xmlns:p='" + xmlSpace + "/'"},
	{"<a xmlns:XML='" + xmlSpace + "'", "<a xmlns:XML='" + xmlSpace[:35] + "'"},
	{"<a xmlns='" + xmlSpace + "'", "<a xmlns=' " + xmlSpace + "'"},
	{"<a xmlns:p='" + declSpace + "'", "<a xmlns:p='" + declSpace + "x'"},
	{"<a xmlns='" + declSpace + "'", "<a xmlns='" + declSpace[:28] + "'"},
	{"<a xmlns:p=''", "<a xmlns:p=' '"},
	{"<p:a xmlns:p=''", "<p:a xmlns:p='&#32;'"},
	{"<a xmlns='' b='' xmlns:p=''", "<a xmlns='' b='' xmlns:p='u'"},
	{"<a xmlns:q='u' xmlns:p=''", "<a xmlns:q='u' xmlns:p='u'"},

	// prefixes that are not bound
	{"<p:a", "<p:a xmlns:p='u'"},
	{"<xmlns:a", "<xml:a"},
	{"<xmlns:a xmlns:xmln='u'", "<xmln:a xmlns:xmln='u'"},
	{"<XML:a", "<xml:a"},
	{"<xm:a", "<xml:a"},
	{"<xmll:a", "<xml:a"},
	{"<p:a xmlns='u'", "<a xmlns='u'"},
	{"<p:a xmlns:q='u'", "<q:a xmlns:q='u'"},
	{"<p:a xmlns:P='u'", "<P:a xmlns:P='u'"},
	{"<p:a xmlns:pp='u'", "<pp:a xmlns:pp='u'"},
	{"<pp:a xmlns:p='u'", "<p:a xmlns:p='u'"},
	{"<p:a q:p='' xmlns:q='u'", "<q:a q:p='' xmlns:q='u'"},
	{"<a p:b=''", "<a p:b='' xmlns:p='u'"},
	{"<a p:b='' xmlns='u'", "<a xml:b='' xmlns='u'"},
	{"<p:a xmlns:p='u' q:b=''", "<p:a xmlns:p='u' p:b=''"},
	{"<a xmlns:p='q' p:b='' q:b=''", "<a xmlns:p='q' p:b='' p:c=''"},
	{"<a xmlnsx:b=''", "<a xmlns:b='u'"},
	{"<a Xmlns:b=''", "<a xmlns:b='u'"},

	// two attributes of one space and local part
	{"<a xmlns:p='u' xmlns:q='u' p:b='' q:b=''", "<a xmlns:p='u' xmlns:q='v' p:b='' q:b=''"},
	{"<a p:b='' xmlns:p='u' q:b='' xmlns:q='u'", "<a p:b='' xmlns:p='u' q:c='' xmlns:q='u'"},
	{"<a xmlns:p='u' xmlns:q='u' q:b='1' c='' p:b='2'", "<a xmlns:p='u' xmlns:q='u' q:b='1' c='' b='2'"},
	{"<a xmlns:p='&#117;' xmlns:q=\"u\" q:b='' p:b=''", "<a xmlns:p='&#118;' xmlns:q=\"u\" q:b='' p:b=''"},
	{"<a xmlns:p='u' xmlns:q='u' q:b='' b='' p:b=''", "<a xmlns:p='u' xmlns:q='u' q:b='' b='' p:bb=''"},
}

// TestWrongNames: P11: a tag with something wrong in its names is wrong at the first "/" or ">" and not ahead of it, and
// each other byte is what it is without Names.
func TestWrongNames(t *testing.T) {
	for _, around := range []string{"", "<!--:--> ", "<r>", "<r xmlns='u'>\n", "<r xmlns:r='u' xmlns:xml='" + xmlSpace + "'>x<s xmlns:p='v' xmlns:q='v'/>"} {
		for _, c := range wrongTags {
			for _, gap := range []string{"", " ", "\r\n", " z='/>'"} {
				text := around + c.wrong + gap
				if got := read(t, named, text); got.feed != api.OK || got.end != api.ErrEarly || got.at != len(text) {
					t.Errorf("P11: %q: %+v", text, got)
				}
				for _, end := range []string{"/", ">", "/>", "/x", "></"} {
					got := read(t, named, text+end)
					if got.feed != api.ErrSpace || got.end != api.ErrSpace || got.at != len(text)+1 || got.events != read(t, named, around).events {
						t.Errorf("P11: %q: %+v; want ErrSpace, At %d", text+end, got, len(text)+1)
					}
				}
				for _, end := range []string{"/", ">", "/>"} {
					mended := around + c.right + gap + end
					if got := read(t, named, mended); got.feed != api.OK || got.at != len(mended) {
						t.Errorf("P11: %q: %+v; nothing is wrong with it", mended, got)
					}
				}
			}
		}
	}
}

// TestBytesBehindWrongNames: P11: all bytes but "/" and ">" are what they are without Names.
func TestBytesBehindWrongNames(t *testing.T) {
	t.Parallel()
	for _, c := range wrongTags {
		for b := 0; b < 256; b++ {
			mindNames(t, named, c.wrong+string([]byte{byte(b)}))
		}
		for i := 1; i < len(c.wrong); i++ {
			for _, b := range []byte(" \"'/<=>?&:9a\xff") {
				mindNames(t, named, c.wrong[:i]+string([]byte{b}))
			}
		}
	}
}

// TestInstructionNames: P11: with a ":" in it, the name is wrong at the space or "?" right behind it.
func TestInstructionNames(t *testing.T) {
	for _, around := range []string{"", "<a>", "<a xmlns:p='u'>", "<a/>"} {
		for _, name := range []string{":", "a:", ":a", "p:b", "a:b:c", "xml:", "xml:xml", "_.-:-"} {
			text := around + "<?" + name
			for b := 0; b < 256; b++ {
				want := api.ErrSyntax
				switch {
				case spaces[b] || b == '?':
					want = api.ErrSpace
				case nameLater[b]:
					want = api.OK
				}
				got := read(t, named, text+string([]byte{byte(b)}))
				if got.feed != want || got.at != len(text)+1 {
					t.Errorf("P11: %q and then the byte %x: %+v; want %d", text, b, got, want)
				}
			}
		}
	}
	for _, text := range []string{"<?a :?><b/>", "<?a b:c?><b/>", "<?a\n::?><b/>", "<b/><?a_.- :?>"} {
		if got := read(t, named, text); got.feed != api.OK || got.end != api.OK {
			t.Errorf("P11: %q: %+v", text, got)
		}
	}
}

// TestWrongByteWithNames: P11: what is hopeless without Names is so with them, and has the same error.
func TestWrongByteWithNames(t *testing.T) {
	t.Parallel()
	o := usual
	o.Names = true
	for _, c := range contexts {
		for b := 0; b < 256; b++ {
			text := c.text + string([]byte{byte(b)})
			if got := read(t, o, text); !strings.Contains(c.text, ":") && (got.feed != c.want(b) || got.at != len(text)) {
				t.Errorf("P11: %q: %+v; want %d", text, got, c.want(b))
			}
			mindNames(t, o, text)
		}
	}
}

// TestTellingNames: P12: which byte tells which event.
func TestTellingNames(t *testing.T) {
	for _, steps := range [][]step{
		{{"<p:a xmlns:p='u' xmlns:q='v' p:b=''", ``}, {">", `Bind p "u"; Bind q "v"; Start p:a of "u" p:b="" of "u"`}, {"x", `Text "x"`}, {"</p:a ", ``}, {">", `End p:a of "u"; Unbind q; Unbind p`}, {" ", ``}},
		{{"<p:a xmlns:p='u' xmlns='v'", ``}, {"/", ``}, {">", `Bind p "u"; Bind "v"; Start p:a of "u"; End p:a of "u"; Unbind; Unbind p`}},
		{{"<a>x<b xmlns='u", `Start a; Text "x"`}, {"'/", ``}, {">y", `Bind "u"; Start b of "u"; End b of "u"; Unbind; Text "y"`}, {"</a>", `End a`}},
		{{"<a xmlns='u'>x", `Bind "u"; Start a of "u"; Text "x"`}, {"<b/>y</a>", `Start b of "u"; End b of "u"; Text "y"; End a of "u"; Unbind`}},
		{{"<a xmlns='u'>x<p:b", `Bind "u"; Start a of "u"; Text "x"`}, {"/", ``}, {">", ``}},
		{{"<a>x<p:b>", `Start a; Text "x"`}},
		{{"<a xmlns:p='u'/", ``}, {"x", ``}},
	} {
		p := parser(t, named)
		for _, s := range steps {
			if list, _ := p.Feed([]byte(s.piece)); words(list) != s.events {
				t.Errorf("P6, P12: %q: the piece %q tells %s; want %s", steps, s.piece, words(list), s.events)
			}
		}
	}
}

// TestFieldsWithNames: what the document does not name in an event is empty.
func TestFieldsWithNames(t *testing.T) {
	p := parser(t, named)
	list, _ := p.Feed([]byte("<p:a xmlns:p='u' p:b='1'/>"))
	want := []api.Event{
		{Kind: api.Bind, Name: "p", Value: "u"},
		{Kind: api.Start, Name: "p:a", Space: "u", Attrs: []api.Attr{{Name: "p:b", Space: "u", Value: "1"}}},
		{Kind: api.End, Name: "p:a", Space: "u"},
		{Kind: api.Unbind, Name: "p"},
	}
	if got := fmt.Sprintf("%+v", list); got != fmt.Sprintf("%+v", want) {
		t.Errorf("P12: %s; want %+v", got, want)
	}
}

// TestWithoutNames: nothing of this is wrong without Names, and declarations are attributes as all others.
func TestWithoutNames(t *testing.T) {
	plain := named
	plain.Names = false
	for _, c := range wrongTags {
		list, e := parser(t, plain).Feed([]byte(c.wrong + "/>"))
		if m, good := measure(c.wrong + "/>"); e != api.OK || !good || words(list) != words(m.events) {
			t.Errorf("P4, P6: %q: %s, %d; by the grammar %s", c.wrong+"/>", words(list), e, words(m.events))
		}
	}
	for _, s := range namedSamples {
		got := read(t, plain, s.text)
		if strings.Contains(got.events, "Bind") || strings.Contains(got.events, " of ") || got.feed == api.ErrSpace {
			t.Errorf("P6: without Names, %q: %+v", s.text, got)
		}
	}
	want := `Start p:a xmlns:p="" :="1" a:b:c="" xml:d="" xmlns="x"; Instruction a:b; Start xml:e; End xml:e; End p:a`
	if got := read(t, plain, "<p:a xmlns:p='' :='1' a:b:c='' xml:d='' xmlns='x'><?a:b?><xml:e/></p:a>"); got.events != want || got.end != api.OK {
		t.Errorf("P6: without Names: %+v; want %s", got, want)
	}
}

// TestManyBindings: as many elements and declarations as there can be: the innermost of one prefix holds, and at each end
// those of the element hold no more.
func TestManyBindings(t *testing.T) {
	o := api.Options{Depth: api.MaxDepth, Attrs: api.MaxAttrs, Token: api.MaxToken, Names: true}
	const prefixes = 40 // more than one tag can declare, so that some come from further out
	text, back := "", ""
	for depth := 0; depth < o.Depth-1; depth++ {
		name := fmt.Sprintf("p%d:a", depth%prefixes)
		text += "<" + name
		for i := 0; i < o.Attrs; i++ {
			text += fmt.Sprintf(" xmlns:p%d='%d'", (depth+i)%prefixes, depth*100+i)
		}
		text += ">"
		back = fmt.Sprintf("<p%d:b p%d:c=''/></%s>", max(depth-1, 0)%prefixes, (depth+5)%prefixes, name) + back
	}
	if got := mindNames(t, o, text+back); got.end != api.OK {
		t.Errorf("P11: %d, %d, At %d", got.feed, got.end, got.at)
	}
	if got := mindNames(t, o, text+back[:strings.LastIndex(back, "<")]+"<p39:b/>"); got.end != api.ErrSpace {
		t.Errorf("P11: %d, %d, At %d", got.feed, got.end, got.at)
	}
}

// TestManyAttributes: P11: each two of many attributes are set against one another.
func TestManyAttributes(t *testing.T) {
	o := api.Options{Depth: 1, Attrs: 32, Token: 8, Names: true}
	for first := 0; first < 30; first++ {
		for second := first; second < 30; second++ {
			text := "<a xmlns:p='u' xmlns:q='u'"
			for i := 0; i < 30; i++ {
				switch i {
				case first:
					text += " p:x=''"
				case second:
					text += " q:x=''"
				default:
					text += fmt.Sprintf(" b%d=''", i)
				}
			}
			want := api.ErrSpace
			if first == second {
				want = api.OK
			}
			if got := read(t, o, text+">"); got.feed != want || got.at != len(text)+1 {
				t.Errorf("P11: %q: %+v; want %d", text+">", got, want)
			}
		}
	}
}

// spacedElement makes an element at random, whose names are wrong now and then.
func (m *maker) spacedElement(depth int) {
	name := m.pick("a", "b", "p:a", "p:b", "q:a", "q:b", "xml:a", "xmlns")
	if m.r.Intn(60) == 0 {
		name = m.pick("r:a", "xmlns:a", ":a", "p:", "p:a:b", "p:9", "P:a", "pp:a")
	}
	m.WriteString("<" + name)
	if depth == 3 {
		m.one(" xmlns:p='u' xmlns:q='v'", " xmlns:q='u'\nxmlns:p='u'", " xmlns:p='u'", " xmlns:q='v' xmlns:p='v' xmlns='v'")
	}
	for i := m.r.Intn(4); i > 0; i-- {
		m.one(" ", "\n", "\r\n")
		m.WriteString(m.pick("xmlns='u'", "xmlns=''", "xmlns='v'", "b='/>'", "a=''", "p:a='1'", "p:b='2'", "q:a='3'", "q:b='4'", "xml:a='5'", "xmlns:r='w'"))
		if m.r.Intn(40) == 0 {
			m.WriteString(m.pick(" xmlns:p='w'", " xmlns:q='&#x75;'", " xmlns:p=''", " xmlns:xml='u'", " xmlns:xmlns='u'", " xmlns:='u'", " r:a=''", " xmlns:a:b='u'", " :b=''"))
		}
	}
	m.gap(1)
	if m.r.Intn(3) == 0 {
		m.WriteString("/>")
		return
	}
	m.WriteString(">")
	for i := m.r.Intn(4); i > 0 && depth > 0; i-- {
		m.one("", "x", "&lt;", "<?t?>", "<!--:-->", "<![CDATA[<p:a>]]>")
		m.spacedElement(depth - 1)
	}
	if m.r.Intn(100) == 0 {
		m.one("<?p:t?>", "<?p:t x?>", "<?t: ?>")
	}
	m.WriteString("</" + name + ">")
}

func (m *maker) pick(of ...string) string {
	return of[m.r.Intn(len(of))]
}

// TestSpacedDocuments: P11, P12, P8: documents at random, with all the ways in which their names are wrong, cut at random.
func TestSpacedDocuments(t *testing.T) {
	t.Parallel()
	o := api.Options{Depth: 4, Attrs: 8, Token: 12}
	counts := map[api.Errno]int{}
	for seed := int64(0); seed < 6000; seed++ {
		m := maker{r: rand.New(rand.NewSource(seed))}
		m.spacedElement(3)
		text := m.String()
		counts[mindNames(t, o, text, pieces(m.r, text)...).end]++
	}
	if counts[api.OK] < 1000 || counts[api.ErrSpace] < 1000 || counts[api.ErrTwice] < 100 {
		t.Errorf("how many texts had which answer: %v", counts)
	}
}

// TestSpacedDocumentsCut: P8, P9, P10: behind each byte of such documents, with Open, Place and Rest.
func TestSpacedDocumentsCut(t *testing.T) {
	t.Parallel()
	o := api.Options{Depth: 4, Attrs: 8, Token: 12, Names: true}
	for seed := int64(0); seed < 300; seed++ {
		m := maker{r: rand.New(rand.NewSource(seed))}
		m.spacedElement(2)
		text := m.String()
		mindRests(t, o, text)
		for i := 0; i <= len(text); i++ {
			mindNames(t, o, text, text[:i], text[i:])
			mindNames(t, o, text[:i])
		}
	}
}

// TestSpacedOneByteWrong: P11: such documents with one byte changed, left out or set in.
func TestSpacedOneByteWrong(t *testing.T) {
	t.Parallel()
	o := api.Options{Depth: 4, Attrs: 8, Token: 12}
	for seed := int64(0); seed < 10000; seed++ {
		m := maker{r: rand.New(rand.NewSource(seed))}
		m.spacedElement(3)
		text := m.String()
		i := m.r.Intn(len(text))
		b := telling[m.r.Intn(len(telling)):][:1]
		text = []string{text[:i] + b + text[i+1:], text[:i] + text[i+1:], text[:i] + b + text[i:]}[m.r.Intn(3)]
		mindNames(t, o, text, pieces(m.r, text)...)
	}
}

// TestNamesAfterWalks: P11, P12: each byte behind texts that were made of fragments, each one that the program takes.
func TestNamesAfterWalks(t *testing.T) {
	for seed := int64(0); seed < 300; seed++ {
		t.Run("", func(t *testing.T) {
			t.Parallel()
			r := rand.New(rand.NewSource(seed))
			o := api.Options{Depth: 1 + r.Intn(3), Attrs: r.Intn(7), Token: 8, Names: true}
			text := "<p:r xmlns:p='u'"
			if o.Attrs == 0 {
				text = "<r"
			}
			for i := r.Intn(40); i > 0; i-- {
				text += goOn(t, r, o, text, namedFragments)
			}
			whole(t, o, text)
			for _, b := range []byte(telling) {
				longer := text + string([]byte{b})
				mindNames(t, o, longer, pieces(r, longer)...)
			}
		})
	}
}
