package markup_test

import (
	"regexp"
	"slices"
	"strings"
	"testing"
	"unicode/utf8"

	"markup/api"
	"markup/markup"
)

// Which lists of events there is a text for, as rules over lists: another way to judge than the program's, which reads
// what it has written.

var nameForm = regexp.MustCompile(`^` + name + `$`)

// listing: what was seen of a list so far.
type listing struct {
	o      api.Options
	open   []string
	over   bool
	naming naming
	told   []api.Event // what is told of the elements so far, and all else that was good
}

// isGiven tells whether there is a text that gives just this list.
func isGiven(o api.Options, list []api.Event) bool {
	l := listing{o: o}
	for i := 0; i < len(list); {
		binds := 0
		for i+binds < len(list) && list[i+binds].Kind == api.Bind {
			binds++
		}
		if i+binds == len(list) || binds > 0 && list[i+binds].Kind != api.Start || !l.takes(list[i:i+binds], list[i+binds]) {
			return false
		}
		// With Unbinds more may be told than was taken: then they are what must come.
		for n := len(l.told); i < n; i++ {
			if i >= len(list) || !sameOne(list[i], l.told[i]) {
				return false
			}
		}
	}
	return l.over
}

func sameOne(a, b api.Event) bool {
	return a.Kind == b.Kind && a.Name == b.Name && a.Space == b.Space && a.Value == b.Value && slices.Equal(a.Attrs, b.Attrs)
}

func sameLists(a, b []api.Event) bool {
	return slices.EqualFunc(a, b, sameOne)
}

// takes judges an event, with the Binds ahead of it, but for its spaces and for fields that are not its own: it adds what
// the event must be.
func (l *listing) takes(binds []api.Event, e api.Event) bool {
	switch e.Kind {
	case api.Start:
		return l.takesStart(binds, e)
	case api.End:
		return l.takesEnd(e)
	case api.Text:
		if e.Value == "" || !isCharacters(e.Value) || len(l.open) == 0 || l.told[len(l.told)-1].Kind == api.Text {
			return false
		}
		l.told = append(l.told, api.Event{Kind: api.Text, Value: e.Value})
		return true
	case api.Comment:
		l.told = append(l.told, api.Event{Kind: api.Comment, Value: e.Value})
		return l.isAside(e.Value) && !strings.Contains(e.Value+"-", "--")
	case api.Instruction:
		l.told = append(l.told, api.Event{Kind: api.Instruction, Name: e.Name, Value: e.Value})
		return l.isName(e.Name) && !strings.EqualFold(e.Name, "xml") && !(l.o.Names && strings.Contains(e.Name, ":")) &&
			l.isAside(e.Value) && !strings.Contains(e.Value, "?>") && strings.TrimLeft(e.Value, " \t\n") == e.Value
	}
	return false
}

func (l *listing) isName(s string) bool {
	return nameForm.MatchString(s) && len(s) <= l.o.Token
}

// isAside: a byte d is told as a byte a where there are no references.
func (l *listing) isAside(s string) bool {
	return l.isValue(s) && !strings.Contains(s, "\r")
}

func (l *listing) isValue(s string) bool {
	return isCharacters(s) && utf8.RuneCountInString(s) <= l.o.Token
}

func (l *listing) takesStart(binds []api.Event, e api.Event) bool {
	if l.over || len(l.open) >= l.o.Depth || len(binds)+len(e.Attrs) > l.o.Attrs || len(binds) > 0 && !l.o.Names || !l.isName(e.Name) {
		return false
	}
	tag := api.Event{Kind: api.Start, Name: e.Name}
	for _, b := range binds {
		tag.Attrs = append(tag.Attrs, api.Attr{Name: declaring(b.Name), Value: b.Value})
	}
	for _, a := range e.Attrs {
		tag.Attrs = append(tag.Attrs, api.Attr{Name: a.Name, Value: a.Value})
	}
	seen := map[string]bool{}
	for _, a := range tag.Attrs {
		if seen[a.Name] || !l.isName(a.Name) || !l.isValue(a.Value) {
			return false
		}
		seen[a.Name] = true
	}
	l.open = append(l.open, e.Name)
	if !l.o.Names {
		l.told = append(l.told, tag)
		return true
	}
	if l.naming.isWrong(tag) {
		return false
	}
	l.tellNamed(tag)
	return true
}

// tellNamed tells an event with its spaces, its Binds and its Unbinds.
func (l *listing) tellNamed(e api.Event) {
	l.naming.events = nil
	l.naming.tell(e)
	l.told = append(l.told, l.naming.events...)
}

func (l *listing) takesEnd(e api.Event) bool {
	last := len(l.open) - 1
	if last < 0 || l.open[last] != e.Name {
		return false
	}
	l.open = l.open[:last]
	l.over = last == 0
	end := api.Event{Kind: api.End, Name: e.Name}
	if !l.o.Names {
		l.told = append(l.told, end)
		return true
	}
	l.tellNamed(end)
	return true
}

func declaring(prefix string) string {
	if prefix == "" {
		return "xmlns"
	}
	return "xmlns:" + prefix
}

var (
	textForms  = strings.NewReplacer("<", "&lt;", ">", "&gt;", "&", "&amp;", "\r", "&#13;")
	valueForms = strings.NewReplacer("<", "&lt;", ">", "&gt;", "&", "&amp;", "\r", "&#13;", "\"", "&quot;", "\t", "&#9;", "\n", "&#10;")
)

// written is P13's text of a list that there is a text for.
func written(list []api.Event) string {
	var out, declared strings.Builder
	for _, e := range list {
		switch e.Kind {
		case api.Bind:
			declared.WriteString(" " + declaring(e.Name) + `="` + valueForms.Replace(e.Value) + `"`)
		case api.Start:
			out.WriteString("<" + e.Name + declared.String())
			declared.Reset()
			for _, a := range e.Attrs {
				out.WriteString(" " + a.Name + `="` + valueForms.Replace(a.Value) + `"`)
			}
			out.WriteString(">")
		case api.End:
			out.WriteString("</" + e.Name + ">")
		case api.Text:
			out.WriteString(textForms.Replace(e.Value))
		case api.Comment:
			out.WriteString("<!--" + e.Value + "-->")
		case api.Instruction:
			gap := " "
			if e.Value == "" {
				gap = ""
			}
			out.WriteString("<?" + e.Name + gap + e.Value + "?>")
		}
	}
	return out.String()
}

// mindWrite sets Write against P13, and tells whether there is a text that gives the list.
func mindWrite(t *testing.T, o api.Options, list []api.Event) bool {
	t.Helper()
	text, e := markup.Write(o, list)
	if !isGiven(o, list) {
		if len(text) != 0 || e != api.ErrEvent {
			t.Fatalf("P13: %+v: no text gives %#v: Write answers %q, %d", o, list, text, e)
		}
		return false
	}
	if want := written(list); string(text) != want || e != api.OK {
		t.Fatalf("P13: %+v: Write of %#v answers %q, %d; want %q", o, list, text, e, want)
	}
	p := parser(t, o)
	back, feed := p.Feed(text)
	if end := p.Close(); feed != api.OK || end != api.OK || !sameLists(back, list) {
		t.Fatalf("P13: %+v: %q, written of %#v, gives %#v, %d, %d", o, text, list, back, feed, end)
	}
	return true
}
