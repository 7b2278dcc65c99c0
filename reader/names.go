package reader

import "markup/api"

// spaceOf gives the space of the innermost element; without Names there are none.
func (r *Reader) spaceOf(name string) string {
	if !r.options.Names {
		return ""
	}
	return r.scope.Space(name)
}

func (r *Reader) tellBinds() {
	declared := r.scope.Declared()
	for i := 0; i < len(declared); i++ {
		r.told.add(api.Event{Kind: api.Bind, Name: declared[i].Prefix, Value: declared[i].Value})
	}
}

func (r *Reader) tellUnbinds() {
	declared := r.scope.Declared()
	for i := len(declared) - 1; i >= 0; i-- {
		r.told.add(api.Event{Kind: api.Unbind, Name: declared[i].Prefix})
	}
}
