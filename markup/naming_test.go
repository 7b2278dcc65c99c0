package markup_test

import (
	"regexp"
	"strings"
	"testing"

	"markup/api"
)

// The rules of P11 and P12 once more, over the events that a text tells without Names.

const part = `[A-Za-z_][A-Za-z0-9_.\-]*`

var qualifiedForm = regexp.MustCompile(`^(?:(` + part + `):)?(` + part + `)$`)

// judged: an event, and how many bytes there are with the one that is wrong if its names are.
type judged struct {
	event api.Event
	at    int
}

// naming: what was told with Names of the events so far.
type naming struct {
	events   []api.Event
	bound    []map[string]string // for each open element, all that is bound in it
	declared [][]string          // for each open element, the prefixes that its tag declares
	wrong    int                 // how many bytes there are with the wrong byte; 0 if none is wrong
}

func withNames(list []judged) naming {
	var n naming
	for _, j := range list {
		if n.isWrong(j.event) {
			n.wrong = j.at
			break
		}
		n.tell(j.event)
	}
	return n
}

func (n *naming) isWrong(e api.Event) bool {
	if e.Kind == api.Instruction {
		return strings.Contains(e.Name, ":")
	}
	if e.Kind != api.Start {
		return false
	}
	if !qualifiedForm.MatchString(e.Name) {
		return true
	}
	for _, a := range e.Attrs {
		if !qualifiedForm.MatchString(a.Name) || isWrongDeclaration(a) {
			return true
		}
	}
	bound := n.within(e)
	if p := parts(e.Name); p.prefix == "xmlns" || p.prefix != "" && bound[p.prefix] == "" {
		return true
	}
	seen := map[string]bool{}
	for _, a := range e.Attrs {
		p := parts(a.Name)
		if declares(a) {
			continue
		}
		key := p.local
		if p.prefix != "" {
			key = bound[p.prefix] + " " + p.local
		}
		if p.prefix != "" && bound[p.prefix] == "" || seen[key] {
			return true
		}
		seen[key] = true
	}
	return false
}

type nameParts struct{ prefix, local string }

func parts(name string) nameParts {
	f := qualifiedForm.FindStringSubmatch(name)
	return nameParts{f[1], f[2]}
}

func declares(a api.Attr) bool {
	return a.Name == "xmlns" || parts(a.Name).prefix == "xmlns"
}

func prefixDeclared(a api.Attr) string {
	if a.Name == "xmlns" {
		return ""
	}
	return parts(a.Name).local
}

func isWrongDeclaration(a api.Attr) bool {
	if !declares(a) {
		return false
	}
	prefix := prefixDeclared(a)
	return prefix == "xmlns" ||
		prefix == "xml" && a.Value != "http://www.w3.org/XML/1998/namespace" ||
		prefix != "xml" && a.Value == "http://www.w3.org/XML/1998/namespace" ||
		a.Value == "http://www.w3.org/2000/xmlns/" ||
		prefix != "" && a.Value == ""
}

// within gives what is bound inside of an element of this Start.
func (n *naming) within(e api.Event) map[string]string {
	bound := map[string]string{"xml": "http://www.w3.org/XML/1998/namespace"}
	if last := len(n.bound) - 1; last >= 0 {
		for prefix, value := range n.bound[last] {
			bound[prefix] = value
		}
	}
	for _, a := range e.Attrs {
		if declares(a) {
			bound[prefixDeclared(a)] = a.Value
		}
	}
	return bound
}

func (n *naming) tell(e api.Event) {
	switch e.Kind {
	case api.Start:
		n.start(e)
	case api.End:
		last := len(n.bound) - 1
		e.Space = n.bound[last][parts(e.Name).prefix]
		n.events = append(n.events, e)
		for i := len(n.declared[last]) - 1; i >= 0; i-- {
			n.events = append(n.events, api.Event{Kind: api.Unbind, Name: n.declared[last][i]})
		}
		n.bound, n.declared = n.bound[:last], n.declared[:last]
	default:
		n.events = append(n.events, e)
	}
}

func (n *naming) start(e api.Event) {
	bound := n.within(e)
	start := api.Event{Kind: api.Start, Name: e.Name, Space: bound[parts(e.Name).prefix]}
	var declared []string
	for _, a := range e.Attrs {
		if declares(a) {
			declared = append(declared, prefixDeclared(a))
			n.events = append(n.events, api.Event{Kind: api.Bind, Name: prefixDeclared(a), Value: a.Value})
			continue
		}
		if p := parts(a.Name).prefix; p != "" {
			a.Space = bound[p]
		}
		start.Attrs = append(start.Attrs, a)
	}
	n.events = append(n.events, start)
	n.bound, n.declared = append(n.bound, bound), append(n.declared, declared)
}

// outcomeWithNames works out what a text is answered with Names, from what it is answered without them.
func outcomeWithNames(t *testing.T, o api.Options, text string) outcome {
	t.Helper()
	o.Names = false
	p := parser(t, o)
	list, feed := p.Feed([]byte(text))
	good := text[:p.At()]
	if feed != api.OK {
		good = text[:p.At()-1]
	}
	second := parser(t, o)
	second.Feed([]byte(good))
	m, isDocument := measure(good + string(second.Rest()))
	if !isDocument {
		t.Fatalf("P10: %q is no document", good+string(second.Rest()))
	}
	if n := withNames(m.judged); n.wrong > 0 && n.wrong <= len(good) {
		return outcome{words(joined(n.events)), api.ErrSpace, api.ErrSpace, n.wrong}
	}
	var n naming
	for _, e := range list {
		n.tell(e)
	}
	return outcome{words(n.events), feed, p.Close(), p.At()}
}

// mindNames sets what a text is answered with Names, cut in some way, against that.
func mindNames(t *testing.T, o api.Options, text string, pieces ...string) outcome {
	t.Helper()
	o.Names = true
	want := outcomeWithNames(t, o, text)
	if got := read(t, o, text); got != want {
		t.Fatalf("P11, P12: %+v: %q:\n got %+v\nwant %+v", o, text, got, want)
	}
	if got := read(t, o, pieces...); len(pieces) > 0 && got != want {
		t.Fatalf("P8: %+v: %q:\n got %+v\nwant %+v", o, pieces, got, want)
	}
	return want
}
