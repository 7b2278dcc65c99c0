package reader

import (
	"markup/api"
	"markup/chars"
	"markup/refs"
)

func (r *Reader) beginStart(b byte) api.Errno {
	if len(r.open) >= r.options.Depth {
		return api.ErrLimit
	}
	r.state = inStartName
	r.put(int(b))
	return api.OK
}

func (r *Reader) readStartName(b byte) api.Errno {
	if chars.InName(b) {
		return r.lengthenName(b)
	}
	r.name = r.takeToken()
	return r.readStartGap(b)
}

// readStartGap reads a byte right behind the name or a value, where no attribute can begin without a space.
func (r *Reader) readStartGap(b byte) api.Errno {
	switch {
	case chars.IsSpace(b):
		r.state = behindStartSpace
		return api.OK
	case b == '/' || b == '>':
		return r.endAttributes(b)
	}
	return api.ErrSyntax
}

// endAttributes judges the names of the tag: not sooner, for a declaration binds the names ahead of it in its tag too.
func (r *Reader) endAttributes(b byte) api.Errno {
	if r.options.Names {
		attrs, good := r.scope.Enter(r.name, r.attrs)
		if !good {
			return api.ErrSpace
		}
		r.attrs = attrs
	}
	if b == '/' {
		r.state = behindSlash
		return api.OK
	}
	r.tellStart()
	r.open = append(r.open, r.name)
	r.name = ""
	r.resume()
	return api.OK
}

func (r *Reader) readStartSpace(b byte) api.Errno {
	if !chars.BeginsName(b) {
		return r.readStartGap(b)
	}
	if len(r.attrs) >= r.options.Attrs {
		return api.ErrLimit
	}
	r.state = inAttrName
	r.put(int(b))
	return api.OK
}

func (r *Reader) readSlash(b byte) api.Errno {
	if b != '>' {
		return api.ErrSyntax
	}
	r.tellStart()
	r.tellEnd(r.name)
	r.name = ""
	return api.OK
}

// tellStart lets go of the attributes, for they are the caller's then.
func (r *Reader) tellStart() {
	r.tellBinds()
	space := r.spaceOf(r.name)
	r.told.add(api.Event{Kind: api.Start, Name: r.name, Space: space, Attrs: r.attrs})
	r.attrs = nil
}

// tellEnd ends an element that is no longer, or never was, among the open ones.
func (r *Reader) tellEnd(name string) {
	space := r.spaceOf(name)
	r.told.add(api.Event{Kind: api.End, Name: name, Space: space})
	r.tellUnbinds()
	r.scope.Leave()
	r.over = len(r.open) == 0
	r.resume()
}

func (r *Reader) readAttrName(b byte) api.Errno {
	switch {
	case chars.InName(b):
		return r.lengthenAttrName(b)
	case b != '=' && !chars.IsSpace(b):
		return api.ErrSyntax
	case r.hasAttr(string(r.token)):
		return api.ErrTwice
	}
	r.attr = r.takeToken()
	return r.readAttrSpace(b)
}

// lengthenAttrName refuses a name that stands in the tag already once it is too long to become another one.
func (r *Reader) lengthenAttrName(b byte) api.Errno {
	e := r.lengthenName(b)
	if e != api.OK {
		return e
	}
	if !r.fits(1) && r.hasAttr(string(r.token)) {
		return api.ErrLimit
	}
	return api.OK
}

func (r *Reader) hasAttr(name string) bool {
	for i := 0; i < len(r.attrs); i++ {
		if r.attrs[i].Name == name {
			return true
		}
	}
	return false
}

func (r *Reader) readAttrSpace(b byte) api.Errno {
	switch {
	case chars.IsSpace(b):
		r.state = behindAttrName
		return api.OK
	case b == '=':
		r.state = behindEquals
		return api.OK
	}
	return api.ErrSyntax
}

func (r *Reader) readEquals(b byte) api.Errno {
	switch {
	case chars.IsSpace(b):
		return api.OK
	case b == '"' || b == '\'':
		r.quote = b
		r.state = inValue
		return api.OK
	}
	return api.ErrSyntax
}

func (r *Reader) readValue(b byte) api.Errno {
	switch b {
	case r.quote:
		r.endValue()
		return api.OK
	case '<':
		return api.ErrSyntax
	case '&':
		if !r.fits(1) {
			return api.ErrLimit
		}
		r.ref = refs.Begin()
		return api.OK
	case '\t', '\n':
		return r.readCharacter(' ')
	}
	return r.readCharacter(b)
}

func (r *Reader) endValue() {
	value := r.takeToken()
	r.attrs = append(r.attrs, api.Attr{Name: r.attr, Value: value})
	r.attr = ""
	r.state = behindValue
}

func (r *Reader) readEndName(b byte) api.Errno {
	name := r.innermost()
	switch {
	case r.matched < len(name):
		if name[r.matched] != b {
			return api.ErrMatch
		}
		r.matched++
		return api.OK
	case chars.InName(b):
		return api.ErrMatch
	}
	return r.readEndSpace(b)
}

func (r *Reader) readEndSpace(b byte) api.Errno {
	switch {
	case chars.IsSpace(b):
		r.state = behindEndName
		return api.OK
	case b == '>':
		r.endInnermost()
		return api.OK
	}
	return api.ErrSyntax
}

func (r *Reader) innermost() string {
	if len(r.open) == 0 {
		return ""
	}
	return r.open[len(r.open)-1]
}

func (r *Reader) endInnermost() {
	name := r.innermost()
	if len(r.open) > 0 {
		r.open = r.open[:len(r.open)-1]
	}
	r.tellEnd(name)
}
