package markup_test

import (
	"regexp"
	"strconv"
	"strings"
	"unicode/utf8"

	"markup/api"
)

// The grammar of the document once more, as regular expressions over whole texts: another way to read than the
// program's, which the tests can set against it.
const (
	space     = `[ \t\r\n]`
	name      = `[A-Za-z_:][A-Za-z0-9_:.\-]*`
	reference = `&(?:lt|gt|amp|quot|apos|#[0-9]+|#x[0-9A-Fa-f]+);`
	value     = `(?:"(?:[^<&"]|` + reference + `)*"|'(?:[^<&']|` + reference + `)*')`
	attribute = space + `+(` + name + `)` + space + `*=` + space + `*(` + value + `)`
)

var (
	spaceForm       = regexp.MustCompile(`^` + space + `+`)
	startForm       = regexp.MustCompile(`^<(` + name + `)((?:` + attribute + `)*)` + space + `*(/?)>`)
	attributeForm   = regexp.MustCompile(attribute)
	endForm         = regexp.MustCompile(`^</(` + name + `)` + space + `*>`)
	referenceForm   = regexp.MustCompile(reference)
	commentForm     = regexp.MustCompile(`^<!--((?:[^\-]|-[^\-])*)-->`)
	instructionForm = regexp.MustCompile(`(?s)^<\?(` + name + `)(?:` + space + `+(.*?))?\?>`)
	sectionForm     = regexp.MustCompile(`(?s)^<!\[CDATA\[(.*?)\]\]>`)
	textForm        = regexp.MustCompile(`^[^<&]+`)
)

// measured: a text that is a document with no bounds: its events, and the bounds that it needs.
type measured struct {
	events              []api.Event
	judged              []judged
	at                  int // how many bytes were read
	depth, attrs, token int
	open                []string
	over                bool
}

// measure tells false if a text is no document, whatever the bounds.
func measure(text string) (measured, bool) {
	var m measured
	if !isCharacters(text) {
		return m, false
	}
	for text != "" {
		n := m.next(text)
		if n == 0 {
			return m, false
		}
		text = text[n:]
		m.at += n
	}
	m.events = joined(m.events)
	return m, m.over && len(m.open) == 0
}

func (m measured) fits(o api.Options) bool {
	return m.depth <= o.Depth && m.attrs <= o.Attrs && m.token <= o.Token
}

func isCharacters(text string) bool {
	for i := 0; i < len(text); {
		r, n := utf8.DecodeRuneInString(text[i:])
		if r == utf8.RuneError && n == 1 || r < 0x20 && r != 9 && r != 10 && r != 13 || r == 0xfffe || r == 0xffff {
			return false
		}
		i += n
	}
	return true
}

// next reads what a text begins with, and tells how many bytes that are, or 0.
func (m *measured) next(text string) int {
	inside := len(m.open) > 0
	if f := commentForm.FindStringSubmatch(text); f != nil {
		m.tell(api.Event{Kind: api.Comment, Value: m.counted(ends(f[1]))})
		return len(f[0])
	}
	if f := instructionForm.FindStringSubmatch(text); f != nil && strings.ToLower(f[1]) != "xml" {
		m.tell(api.Event{Kind: api.Instruction, Name: m.counted(f[1]), Value: m.counted(ends(f[2]))})
		m.judgedWith(len("<?"+f[1]) + 1)
		return len(f[0])
	}
	if f := startForm.FindStringSubmatch(text); f != nil && !m.over {
		return m.start(f)
	}
	if f := endForm.FindStringSubmatch(text); f != nil && inside && f[1] == m.open[len(m.open)-1] {
		m.end()
		return len(f[0])
	}
	if !inside {
		return len(spaceForm.FindString(text))
	}
	if f := sectionForm.FindStringSubmatch(text); f != nil {
		m.text(ends(f[1]))
		return len(f[0])
	}
	if f := referenceForm.FindString(text); f != "" && strings.HasPrefix(text, f) {
		s, good := expanded(f)
		m.text(s)
		return len(f) * number(good)
	}
	f := textForm.FindString(text)
	m.text(ends(f))
	return len(f) * number(!strings.Contains(f, "]]>"))
}

func number(b bool) int {
	if b {
		return 1
	}
	return 0
}

func (m *measured) tell(e api.Event) {
	m.events = append(m.events, e)
	m.judged = append(m.judged, judged{e, 0})
}

// judgedWith minds with which of its bytes the names of the last event are judged.
func (m *measured) judgedWith(byte int) {
	m.judged[len(m.judged)-1].at = m.at + byte
}

func (m *measured) text(s string) {
	if s != "" {
		m.tell(api.Event{Kind: api.Text, Value: s})
	}
}

// counted minds how many characters a token has.
func (m *measured) counted(token string) string {
	m.token = max(m.token, utf8.RuneCountInString(token))
	return token
}

// ends writes each line's end as a byte a.
func ends(s string) string {
	return strings.ReplaceAll(strings.ReplaceAll(s, "\r\n", "\n"), "\r", "\n")
}

// expanded writes the characters of references; it tells false if one is none.
func expanded(s string) (string, bool) {
	good := true
	s = referenceForm.ReplaceAllStringFunc(s, func(f string) string {
		switch f {
		case "&lt;":
			return "<"
		case "&gt;":
			return ">"
		case "&amp;":
			return "&"
		case "&quot;":
			return "\""
		case "&apos;":
			return "'"
		}
		code, err := strconv.ParseInt(strings.Trim(f, "&#;"), 10, 32)
		if strings.HasPrefix(f, "&#x") {
			code, err = strconv.ParseInt(strings.Trim(f, "&#x;"), 16, 32)
		}
		if err != nil || !utf8.ValidRune(rune(code)) || !isCharacters(string(rune(code))) {
			good = false
			return ""
		}
		return string(rune(code))
	})
	return s, good
}

func (m *measured) start(f []string) int {
	e := api.Event{Kind: api.Start, Name: m.counted(f[1])}
	seen := map[string]bool{}
	for _, a := range attributeForm.FindAllStringSubmatch(f[2], -1) {
		quoted := strings.NewReplacer("\n", " ", "\t", " ").Replace(ends(a[2][1 : len(a[2])-1]))
		s, good := expanded(quoted)
		if !good || seen[a[1]] {
			return 0
		}
		seen[a[1]] = true
		e.Attrs = append(e.Attrs, api.Attr{Name: m.counted(a[1]), Value: m.counted(s)})
	}
	m.attrs = max(m.attrs, len(e.Attrs))
	m.tell(e)
	slash := f[len(f)-1]
	m.judgedWith(len(f[0]) - len(slash))
	m.open = append(m.open, f[1])
	m.depth = max(m.depth, len(m.open))
	if slash == "/" {
		m.end()
	}
	return len(f[0])
}

func (m *measured) end() {
	last := len(m.open) - 1
	m.tell(api.Event{Kind: api.End, Name: m.open[last]})
	m.open = m.open[:last]
	m.over = last == 0
}
