package markup_test

import (
	"fmt"
	"math/rand"
	"strings"
	"testing"

	"markup/api"
	"markup/markup"
)

// mindRest sets Rest against P10, behind a text that was fed to a parser and is not hopeless: a second parser, and the
// grammar, take the text with these bytes as a document, and the bytes are not too many.
func mindRest(t *testing.T, p *markup.Parser, o api.Options, text string) {
	t.Helper()
	rest := string(p.Rest())
	most := 16
	for _, name := range p.Open() {
		most += len(name) + 3
	}
	if len(rest) > most {
		t.Fatalf("P10: %+v: %q: Rest is %q: %d bytes, where %d are the most", o, text, rest, len(rest), most)
	}
	if o.Names {
		mindRestWithNames(t, p, o, text)
	}
	o.Names = false
	second := parser(t, o)
	_, feed := second.Feed([]byte(text))
	_, more := second.Feed([]byte(rest))
	if end := second.Close(); feed != api.OK || more != api.OK || end != api.OK {
		t.Fatalf("P10: %+v: %q: with the Rest %q it answers %d, %d, %d", o, text, rest, feed, more, end)
	}
	if m, good := measure(text + rest); !good || !m.fits(o) {
		t.Fatalf("P10: %+v: %q: with the Rest %q it is no document by the grammar", o, text, rest)
	}
	if open := second.Open(); len(open) != 0 {
		t.Fatalf("P10: %q: Open behind a document is %q", text+rest, open)
	}
}

// mindRestWithNames: a parser with Names takes the same bytes too, but for names that are wrong.
func mindRestWithNames(t *testing.T, p *markup.Parser, o api.Options, text string) {
	t.Helper()
	second := parser(t, o)
	_, feed := second.Feed([]byte(text))
	_, more := second.Feed(p.Rest())
	end := second.Close()
	if feed != api.OK || more != end || end != api.OK && end != api.ErrSpace {
		t.Fatalf("P10: %+v: %q: with the Rest %q it answers %d, %d, %d", o, text, p.Rest(), feed, more, end)
	}
}

// mindRests does so behind each beginning of a text, as far as it goes well, and tells how far that is.
func mindRests(t *testing.T, o api.Options, text string) int {
	t.Helper()
	p := parser(t, o)
	mindRest(t, p, o, "")
	for i := 0; i < len(text); i++ {
		if _, e := p.Feed([]byte{text[i]}); e != api.OK {
			if rest := p.Rest(); len(rest) != 0 {
				t.Fatalf("P10: %q: Rest behind the error %d is %q", text[:i+1], e, rest)
			}
			return i
		}
		mindRest(t, p, o, text[:i+1])
	}
	return len(text)
}

// whole minds Rest behind each beginning of a text that has no wrong byte.
func whole(t *testing.T, o api.Options, text string) {
	t.Helper()
	if n := mindRests(t, o, text); n != len(text) {
		t.Errorf("P4: %+v: %q is wrong behind %d bytes", o, text, n)
	}
}

// TestRest: each kind of token, cut at every byte: outside of the outermost element ahead of it and behind it, and inside.
func TestRest(t *testing.T) {
	const refs = "&lt;&gt;&amp;&quot;&apos;&#9;&#0065;&#x1f600;&#xFFFD;&#55295;"
	const wide = "\x7f\u00e9\u0800\u20ac\ud7ff\ue000\ufffd\U00010000\U0001f600\U0010ffff"
	tokens := []string{
		" \r\n\t\r", "<!---->", "<!--x-y-" + wide + "\r\n-->", "<!--->-->", "<?t?>", "<?xmly?>", "<?xm l?>", "<?XmL-?>", "<?_:.9-a \r\n" + wide + "?x??>", "<?t ?>", "<?t ??>",
	}
	inner := []string{
		"x" + wide + "\r\n", "]]]x", "]]" + wide, refs, "<![CDATA[]]>", "<![CDATA[x]y]]z]]]" + wide + "]]]>", "<b/>", "<b ></b\r\n>", "<b:c-.9></b:c-.9>", "<a></a>",
		"<b c = '" + refs + "' d\r=\n\"" + wide + "'\"\r\n e=''/>", "<b c=''\td=\"\"></b>", "<b cc='' c='' ccc=''></b>", "<b cc=\"\" cb='' c ='' d='\r'/>",
	}
	for _, token := range tokens {
		whole(t, usual, token+"<a/>"+token)
		whole(t, usual, "<a>"+token+"</a>")
		whole(t, usual, "<abc><d>"+token+"<e>"+token+"</e>"+token)
	}
	o := api.Options{Depth: 4, Attrs: 4, Token: 60}
	for _, token := range inner {
		whole(t, o, "<a>"+token+"</a>")
		whole(t, o, "<abc><d>"+token+token)
		if token[0] == '<' && token[1] != '!' {
			whole(t, o, token+token[:1])
		}
	}
}

// TestRestOfSamples: behind each beginning of the samples, and behind each context with each byte.
func TestRestOfSamples(t *testing.T) {
	for _, s := range everySample() {
		mindRests(t, s.o, s.text)
	}
	for _, c := range contexts {
		mindRests(t, usual, c.text)
		for b := 0; b < 256; b++ {
			text := c.text + string([]byte{byte(b)})
			p := parser(t, usual)
			if _, e := p.Feed([]byte(text)); e == api.OK {
				mindRest(t, p, usual, text)
			} else if rest := p.Rest(); len(rest) != 0 {
				t.Errorf("P10: %q: Rest behind the error %d is %q", text, e, rest)
			}
		}
	}
}

// TestRestAtTheBounds: each bound just kept, the least and the greatest.
func TestRestAtTheBounds(t *testing.T) {
	t.Parallel()
	for _, n := range []int{8, 9, 1024} {
		long := many("n", n)
		o := api.Options{Depth: 2, Attrs: 2, Token: n}
		for _, text := range []string{
			"<" + long + "><" + long + "></" + long + "></" + long + ">", "<" + long + "/>",
			"<?" + long + " " + long + "?><a/><?" + long + "?>", "<?" + long[1:] + " " + long[1:] + "??><a/>",
			"<!--" + long + "--><a/>", "<!--" + long[1:] + "\r\n--><a/>", "<!--" + long[2:] + "-\U0010ffff--><a/>",
			"<a " + long + "='" + long + "' " + long[1:] + "=\"" + long[1:] + "&#x10000;\"/>",
			"<a " + long[1:] + "='" + long[1:] + "\xf0\x90\x80\x80' " + long + "='" + long[1:] + "\r\n'></a>",
		} {
			whole(t, o, text)
		}
	}
	for _, depth := range []int{1, 2, 64} {
		o := api.Options{Depth: depth, Attrs: 0, Token: 8}
		whole(t, o, many("<abcdefgh>", depth)+"<!--c--><?t?><![CDATA[x]]>"+many("</abcdefgh>", depth)+"<!---->")
		whole(t, o, many("<a>", depth-1)+"<b/><")
		whole(t, o, many("<a>", depth-1)+"<b ></b ><")
	}
}

// TestRestOfTakenNames: a name that stands in the tag already gets longer, by something that makes no other name of the tag.
func TestRestOfTakenNames(t *testing.T) {
	t.Parallel()
	r := rand.New(rand.NewSource(1))
	const letters = "ABCDEFGHIJKLMNOPQRSTUVWXYZabcdefghijklmnopqrstuvwxyz_:0123456789-."
	for _, stem := range []string{"b", "bb", "bbbbbb", "bbbbbbb"} {
		for _, first := range []string{letters, letters[26:], "_" + letters, "-.:0123456789" + letters} {
			minding(t, stem, first)
		}
		for range 20 {
			shuffled := []byte(letters)
			r.Shuffle(len(shuffled), func(i, k int) { shuffled[i], shuffled[k] = shuffled[k], shuffled[i] })
			minding(t, stem, string(shuffled))
		}
	}
}

// minding minds Rest in a tag with the name of a stem, and with the same name with each of some letters behind it.
func minding(t *testing.T, stem, letters string) {
	t.Helper()
	o := api.Options{Depth: 1, Attrs: 32, Token: 8}
	tag := "<a " + stem + "=''"
	for i := 0; i < 30; i++ {
		tag += fmt.Sprintf(" %s%c=''", stem, letters[i])
	}
	whole(t, o, tag+" "+stem)
	whole(t, o, tag+" "+stem+letters[30:31])
}

// TestRestOfReferences: each number that is none of a character's, and some that are.
func TestRestOfReferences(t *testing.T) {
	o := api.Options{Depth: 1, Attrs: 1, Token: 8}
	var codes []int
	for code := range 0x30 {
		codes = append(codes, code)
	}
	codes = append(codes, 0xd7ff, 0xd800, 0xd801, 0xdabc, 0xdfff, 0xe000, 0xfffd, 0xfffe, 0xffff, 0x10000, 0x10fffe, 0x10ffff)
	for _, code := range codes {
		for _, form := range []string{"&#%d", "&#x%x", "&#x%X", "&#000%d", "&#x000%x"} {
			number := fmt.Sprintf(form, code)
			whole(t, o, "<a>"+number)
			whole(t, o, "<a b='1234567"+number)
		}
	}
}

// TestRestOfDocuments: documents at random, with bounds that they just keep, and texts that were made byte by byte.
func TestRestOfDocuments(t *testing.T) {
	t.Parallel()
	for seed := int64(0); seed < 150; seed++ {
		m := maker{r: rand.New(rand.NewSource(seed))}
		text := m.document()
		if measured, good := measure(text); good {
			whole(t, api.Options{Depth: max(measured.depth, 1), Attrs: measured.attrs, Token: max(measured.token, 8)}, text)
		}
	}
	for seed := int64(0); seed < 500; seed++ {
		r := rand.New(rand.NewSource(seed))
		o := api.Options{Depth: 1 + r.Intn(3), Attrs: r.Intn(4), Token: 8 + r.Intn(2)}
		text := ""
		for i := r.Intn(60); i > 0; i-- {
			text += goOn(t, r, o, text, fragments)
		}
		whole(t, o, text)
	}
}

// TestNoRest: P10: behind an error and behind a Close there are no bytes, whatever is called then.
func TestNoRest(t *testing.T) {
	for _, s := range everySample() {
		p := parser(t, s.o)
		_, e := p.Feed([]byte(s.text))
		for _, piece := range []string{"", "<a/>", "\xff"} {
			if e == api.OK {
				e = p.Close()
			}
			if rest := p.Rest(); len(rest) != 0 {
				t.Errorf("P10: %q: Rest of an ended parser is %q", s.text, rest)
			}
			p.Close()
			p.Feed([]byte(piece))
			if rest := p.Rest(); len(rest) != 0 {
				t.Errorf("P10: %q: Rest of an ended parser is %q", s.text, rest)
			}
		}
	}
}

// TestAskingChangesNothing: Place, Open and Rest between all bytes leave what the text is answered as it is, and their
// answers may be written into.
func TestAskingChangesNothing(t *testing.T) {
	for _, s := range everySample() {
		p := parser(t, s.o)
		var told []api.Event
		var got outcome
		for i := 0; i < len(s.text); i++ {
			list, e := p.Feed([]byte{s.text[i]})
			told = append(told, list...)
			got.feed = e
			ask(p)
		}
		got.events, got.at, got.end = words(joined(told)), p.At(), p.Close()
		ask(p)
		if got != s.want() {
			t.Errorf("P2: %q, with questions among its bytes: %+v; want %+v", s.text, got, s.want())
		}
	}
}

func ask(p *markup.Parser) {
	p.Place()
	open := p.Open()
	open = open[:cap(open)]
	for i := range open {
		open[i] = "spoilt"
	}
	rest := p.Rest()
	rest = rest[:cap(rest)]
	for i := range rest {
		rest[i] = '!'
	}
}

// TestRestOwn: P2: bytes of a Rest are the caller's; no later call writes into them, or is changed by what he writes.
func TestRestOwn(t *testing.T) {
	const text = "<abc d='&#x1F600;\xe2\x82\xac'><e><!--c--></e><![CDATA[x]]>"
	p := parser(t, usual)
	var spoilt [][]byte
	for i := 0; i < len(text); i++ {
		p.Feed([]byte{text[i]})
		for range 2 {
			mindRest(t, p, usual, text[:i+1])
			rest := p.Rest()
			rest = rest[:cap(rest)]
			for k := range rest {
				rest[k] = '!'
			}
			spoilt = append(spoilt, rest)
		}
	}
	for _, rest := range spoilt {
		if strings.Trim(string(rest), "!") != "" {
			t.Errorf("P2: a later call wrote into %q", rest)
		}
	}
}
