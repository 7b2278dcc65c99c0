package spaces

import "markup/api"

// Binding is what a declaration says.
type Binding struct {
	Prefix, Value string
}

func (b Binding) isGood() bool {
	switch {
	case b.Prefix == "xmlns" || b.Value == api.DeclSpace:
		return false
	case b.Prefix == "xml" || b.Value == api.XMLSpace:
		return b.Prefix == "xml" && b.Value == api.XMLSpace
	}
	return b.Prefix == "" || b.Value != ""
}

// Scope is the elements around a place in a text, with what their tags declare.
type Scope struct {
	bound  []Binding // the outermost first
	counts []int     // how many of them each element declares
}

// Make gives a scope outside of all elements.
func Make() Scope {
	return Scope{bound: []Binding{{"xml", api.XMLSpace}}}
}

// Enter goes into an element: what its tag declares holds from now on. It gives the attributes that are no declarations,
// with their spaces, in a list of its own; or it tells false if anything is wrong with the names of the tag: then the scope
// must be used no more.
func (s *Scope) Enter(name string, attrs []api.Attr) ([]api.Attr, bool) {
	if !areQualified(name, attrs) {
		return nil, false
	}
	if !s.declare(attrs) {
		return nil, false
	}
	// No declaration binds "xmlns": so it needs no rule of its own here.
	if !s.isBound(prefixOf(name)) {
		return nil, false
	}
	return s.resolve(attrs)
}

func areQualified(name string, attrs []api.Attr) bool {
	for i := 0; i < len(attrs); i++ {
		if !isQualified(attrs[i].Name) {
			return false
		}
	}
	return isQualified(name)
}

func (s *Scope) declare(attrs []api.Attr) bool {
	count := 0
	for i := 0; i < len(attrs); i++ {
		if !isDeclaration(attrs[i].Name) {
			continue
		}
		binding := Binding{declared(attrs[i].Name), attrs[i].Value}
		if !binding.isGood() {
			return false
		}
		s.bound = append(s.bound, binding)
		count++
	}
	s.counts = append(s.counts, count)
	return true
}

func (s *Scope) resolve(attrs []api.Attr) ([]api.Attr, bool) {
	var resolved []api.Attr
	for i := 0; i < len(attrs); i++ {
		attr := attrs[i]
		if isDeclaration(attr.Name) {
			continue
		}
		prefix := prefixOf(attr.Name)
		// The empty prefix is for elements alone.
		if prefix != "" {
			attr.Space = s.value(prefix)
		}
		if !s.isBound(prefix) || has(resolved, attr) {
			return nil, false
		}
		resolved = append(resolved, attr)
	}
	return resolved, true
}

func has(attrs []api.Attr, attr api.Attr) bool {
	local := localOf(attr.Name)
	for i := 0; i < len(attrs); i++ {
		if attrs[i].Space == attr.Space && localOf(attrs[i].Name) == local {
			return true
		}
	}
	return false
}

// isBound tells whether a name may have this prefix. The empty one is that of a name without prefix, which needs no
// declaration; no other can be bound to the empty value.
func (s *Scope) isBound(prefix string) bool {
	return prefix == "" || s.value(prefix) != ""
}

// value gives what a prefix is bound to, and the empty value if it is not bound.
func (s *Scope) value(prefix string) string {
	for i := len(s.bound) - 1; i >= 0; i-- {
		if s.bound[i].Prefix == prefix {
			return s.bound[i].Value
		}
	}
	return ""
}

// Space gives the space of the innermost element, which has this name.
func (s *Scope) Space(name string) string {
	return s.value(prefixOf(name))
}

// Declared gives what the tag of the innermost element declares, in a list of its own.
func (s *Scope) Declared() []Binding {
	first := s.first()
	var own []Binding
	own = append(own, s.bound[first:]...)
	return own
}

// first tells where the bindings of the innermost element begin.
func (s *Scope) first() int {
	last := len(s.counts) - 1
	if last < 0 || s.counts[last] > len(s.bound) {
		return len(s.bound)
	}
	return len(s.bound) - s.counts[last]
}

// Leave goes out of the innermost element: what its tag declares holds no more.
func (s *Scope) Leave() {
	first := s.first()
	s.bound = s.bound[:first]
	if len(s.counts) > 0 {
		s.counts = s.counts[:len(s.counts)-1]
	}
}
