package spaces

import (
	"fmt"
	"testing"

	"markup/api"
)

func TestNames(t *testing.T) {
	for _, c := range []struct {
		name          string
		qualified     bool
		prefix, local string
	}{
		{"a", true, "", "a"}, {"_", true, "", "_"}, {"a-.9", true, "", "a-.9"}, {"xmlns", true, "", "xmlns"},
		{"p:a", true, "p", "a"}, {"_:_", true, "_", "_"}, {"p.-9:Z.-9", true, "p.-9", "Z.-9"}, {"xmlns:p", true, "xmlns", "p"},
		{":", false, "", ""}, {":a", false, "", ""}, {"a:", false, "", ""}, {"::", false, "", ""}, {"a::b", false, "", ""}, {"a:b:", false, "", ""}, {"a:b:c", false, "", ""},
		{":a:b", false, "", ""}, {"a:9", false, "", ""}, {"a:-", false, "", ""}, {"a:.b", false, "", ""},
	} {
		if got := isQualified(c.name); got != c.qualified {
			t.Errorf("P11: %q is qualified: %v", c.name, got)
		}
		if prefix, local := prefixOf(c.name), localOf(c.name); c.qualified && (prefix != c.prefix || local != c.local) {
			t.Errorf("P11: the parts of %q are %q and %q", c.name, prefix, local)
		}
		if got, want := HasColon(c.name), !c.qualified || c.prefix != ""; got != want {
			t.Errorf("%q has a colon: %v", c.name, got)
		}
	}
}

func TestDeclarations(t *testing.T) {
	for _, c := range []struct {
		prefix, value string
		good          bool
	}{
		{"", "", true}, {"", "u", true}, {"p", "u", true}, {"p", " ", true}, {"xmln", "u", true}, {"xm", "u", true}, {"xml", api.XMLSpace, true},
		{"p", "", false}, {"xml", "", false}, {"xmlns", "", false}, {"xml", "u", false}, {"xmlns", "u", false}, {"xmlns", api.XMLSpace, false}, {"xmlns", api.DeclSpace, false},
		{"xml", api.DeclSpace, false}, {"", api.XMLSpace, false}, {"p", api.XMLSpace, false}, {"", api.DeclSpace, false}, {"p", api.DeclSpace, false},
	} {
		if got := (Binding{c.prefix, c.value}).isGood(); got != c.good {
			t.Errorf("P11: %q bound to %q is good: %v", c.prefix, c.value, got)
		}
	}
}

// attributes makes a list of names and values in turns.
func attributes(words ...string) []api.Attr {
	var list []api.Attr
	for i := 0; i+1 < len(words); i += 2 {
		list = append(list, api.Attr{Name: words[i], Value: words[i+1]})
	}
	return list
}

// TestScope: bindings hold in their element, and those further out hold again behind it.
func TestScope(t *testing.T) {
	s := Make()
	enter(t, &s, "p:a", attributes("b", "1", "xmlns:p", "u", "p:b", "2"), "[{b  1} {p:b u 2}]", "u", "[{p u}]")
	enter(t, &s, "c", nil, "[]", "", "[]")
	enter(t, &s, "p:a", attributes("xmlns", "w", "xmlns:p", "v", "xml:b", ""), "[{xml:b "+api.XMLSpace+" }]", "v", "[{ w} {p v}]")
	enter(t, &s, "c", attributes("b", ""), "[{b  }]", "w", "[]")
	s.Leave()
	s.Leave()
	enter(t, &s, "p:d", attributes("b", ""), "[{b  }]", "u", "[]")
	s.Leave()
	s.Leave()
	s.Leave()
	if _, good := s.Enter("p:a", nil); good {
		t.Errorf("P11: behind the end of the element a prefix is still bound")
	}
}

func enter(t *testing.T, s *Scope, name string, attrs []api.Attr, resolved, space, declared string) {
	t.Helper()
	list, good := s.Enter(name, attrs)
	if got := fmt.Sprint(list); !good || got != resolved {
		t.Errorf("P12: %s with %v: %v, %s; want %s", name, attrs, good, got, resolved)
	}
	if got := s.Space(name); got != space {
		t.Errorf("P12: the space of %s with %v is %q; want %q", name, attrs, got, space)
	}
	if got := fmt.Sprint(s.Declared()); got != declared {
		t.Errorf("P12: %s with %v declares %s; want %s", name, attrs, got, declared)
	}
}

// TestOutside: outside of all elements nothing is declared, and there is nothing to leave.
func TestOutside(t *testing.T) {
	s := Make()
	for range 3 {
		if got := s.Declared(); len(got) != 0 {
			t.Errorf("%v", got)
		}
		s.Leave()
	}
	if got := s.Space("xml:a"); got != api.XMLSpace {
		t.Errorf("P11: xml is bound to %q", got)
	}
}

func TestDeclaration(t *testing.T) {
	for _, prefix := range []string{"", "p", "xmlns", "a.-9"} {
		name := Declaration(prefix)
		if !isDeclaration(name) || declared(name) != prefix {
			t.Errorf("P13: %q is declared by %q", prefix, name)
		}
	}
}
