package markup

import (
	"markup/api"
	"markup/writer"
)

// Write writes events as text (P13).
func Write(o api.Options, list []api.Event) ([]byte, api.Errno) {
	p, e := New(o)
	if e != api.OK {
		return nil, e
	}
	// If any text gives the list, this one does too: so reading it is the whole test, and what a document may hold is not
	// said a second time.
	text := writer.Text(list)
	if !p.gives(text, list) {
		return nil, api.ErrEvent
	}
	return text, api.OK
}

// gives tells whether a new parser, fed a whole text and closed, answers just these events, and OK twice.
func (p *Parser) gives(text []byte, list []api.Event) bool {
	events, e := p.Feed(text)
	if e != api.OK {
		return false
	}
	e = p.Close()
	return e == api.OK && sameEvents(events, list)
}

func sameEvents(a, b []api.Event) bool {
	if len(a) != len(b) {
		return false
	}
	for i := 0; i < len(a); i++ {
		if !sameEvent(a[i], b[i]) {
			return false
		}
	}
	return true
}

func sameEvent(a, b api.Event) bool {
	return a.Kind == b.Kind && a.Name == b.Name && a.Space == b.Space && a.Value == b.Value && sameAttrs(a.Attrs, b.Attrs)
}

func sameAttrs(a, b []api.Attr) bool {
	if len(a) != len(b) {
		return false
	}
	for i := 0; i < len(a); i++ {
		if a[i] != b[i] {
			return false
		}
	}
	return true
}
