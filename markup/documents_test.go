package markup_test

import (
	"math/rand"
	"strings"
	"testing"

	"markup/api"
)

// maker makes documents at random.
type maker struct {
	r *rand.Rand
	strings.Builder
}

func (m *maker) one(of ...string) {
	m.WriteString(of[m.r.Intn(len(of))])
}

func (m *maker) some(most int, of ...string) {
	for i := m.r.Intn(most + 1); i > 0; i-- {
		m.one(of...)
	}
}

func (m *maker) gap(most int) {
	m.some(most, " ", "\t", "\r", "\n", "\r\n")
}

func (m *maker) aside() {
	switch m.r.Intn(3) {
	case 0:
		m.WriteString("<!--")
		m.some(6, "x", "-x", "->", "é", "\r\n", "\r", "\n", "<", "&", "]]>", "?>", "\t")
		m.WriteString("-->")
	case 1:
		m.WriteString("<?")
		m.one("t", "xm", "xmlx", ":-.9")
		m.one("", " ", "\r\n\t", " x?y", "\n?\r\n>", " x \r", " <!--?", " €")
		m.WriteString("?>")
	}
}

var texts = []string{"x", "]", "]x", ">", "é", "€", "😀", "\r\n", "\r", "\n", "\t", " ", "\"", "'", "\x7f"}
var references = []string{"&lt;", "&gt;", "&amp;", "&quot;", "&apos;", "&#13;", "&#10;", "&#9;", "&#xe9;", "&#x1F600;", "&#0065;"}

func (m *maker) element(depth int) {
	name := []string{"a", "b", "ab", "_:-.9", "Z"}[m.r.Intn(5)]
	m.WriteString("<" + name)
	for i, attr := range []string{"a", "b", ":", "a.b"} {
		if m.r.Intn(4) != i {
			continue
		}
		m.one(" ", "\n", "\r\n", "\t\r")
		m.WriteString(attr)
		m.gap(1)
		m.WriteString("=")
		m.gap(1)
		m.value()
	}
	m.gap(2)
	if m.r.Intn(3) == 0 {
		m.WriteString("/>")
		return
	}
	m.WriteString(">")
	m.content(depth)
	m.WriteString("</" + name)
	m.gap(2)
	m.WriteString(">")
}

func (m *maker) value() {
	if m.r.Intn(2) == 0 {
		m.WriteString("'")
		m.some(6, append([]string{"\"", "x", "é", "\r\n", "\r", "\t", ">"}, references...)...)
		m.WriteString("'")
		return
	}
	m.WriteString("\"")
	m.some(6, append([]string{"'", "x", "😀", "\r\n", "\n", "\t", "]]>"}, references...)...)
	m.WriteString("\"")
}

func (m *maker) content(depth int) {
	for i := m.r.Intn(6); i > 0; i-- {
		switch m.r.Intn(5) {
		case 0:
			m.some(4, texts...)
			m.some(1, "]]&gt;", "]]<!---->>")
		case 1:
			m.some(3, references...)
		case 2:
			m.WriteString("<![CDATA[")
			m.some(6, append([]string{"<", "&", "]]x", "]>"}, texts...)...)
			m.WriteString("]]>")
		case 3:
			m.aside()
		case 4:
			if depth > 0 {
				m.element(depth - 1)
			}
		}
	}
}

func (m *maker) document() string {
	m.gap(2)
	m.aside()
	m.gap(1)
	m.element(4)
	m.gap(1)
	m.aside()
	return m.String()
}

// TestDocuments: P4 to P8: documents at random, cut at random, tell what they tell by the grammar.
func TestDocuments(t *testing.T) {
	o := api.Options{Depth: 5, Attrs: 4, Token: 12}
	good := 0
	for seed := int64(0); seed < 6000; seed++ {
		m := maker{r: rand.New(rand.NewSource(seed))}
		text := m.document()
		measured, isDocument := measure(text)
		if !isDocument || !measured.fits(o) {
			continue
		}
		good++
		want := outcome{words(measured.events), api.OK, api.OK, len(text)}
		if got := read(t, o, text); got != want {
			t.Fatalf("P6: %q:\n got %+v\nwant %+v", text, got, want)
		}
		if got := read(t, o, pieces(m.r, text)...); got != want {
			t.Fatalf("P8: %q in pieces:\n got %+v\nwant %+v", text, got, want)
		}
	}
	if good < 3000 {
		t.Errorf("only %d of the texts were documents", good)
	}
}

func pieces(r *rand.Rand, text string) []string {
	var all []string
	for text != "" {
		n := min(r.Intn(6), len(text))
		all = append(all, text[:n])
		text = text[n:]
	}
	return all
}

// TestOneByteWrong: P4, P8: documents with one byte changed, left out or set in: cut anywhere they end alike, and by the
// grammar they are documents just if they are closed well.
func TestOneByteWrong(t *testing.T) {
	o := api.Options{Depth: 5, Attrs: 4, Token: 12}
	for seed := int64(0); seed < 20000; seed++ {
		m := maker{r: rand.New(rand.NewSource(seed))}
		text := m.document()
		i := m.r.Intn(len(text))
		b := telling[m.r.Intn(len(telling)):][:1]
		text = []string{text[:i] + b + text[i+1:], text[:i] + text[i+1:], text[:i] + b + text[i:]}[m.r.Intn(3)]
		whole := read(t, o, text)
		measured, isDocument := measure(text)
		if isDocument = isDocument && measured.fits(o); isDocument != (whole.end == api.OK) {
			t.Fatalf("P4, P7: %q: %+v; by the grammar a document: %v", text, whole, isDocument)
		}
		if isDocument && words(measured.events) != whole.events {
			t.Fatalf("P6: %q: %s; by the grammar %s", text, whole.events, words(measured.events))
		}
		if got := read(t, o, pieces(m.r, text)...); got != whole {
			t.Fatalf("P8: %q:\n in pieces %+v\nwhole %+v", text, got, whole)
		}
	}
}
