// Package writer writes events as text.
package writer

import (
	"markup/api"
	"markup/spaces"
)

// writer gathers what is written.
type writer struct {
	text []byte
}

// Text writes events one behind the other, as if there were a text that tells them: it does not mind whether there is one.
func Text(list []api.Event) []byte {
	var w writer
	first := 0 // where the Binds right ahead begin
	for i := 0; i < len(list); i++ {
		switch list[i].Kind {
		case api.Bind:
			continue
		case api.Start:
			w.putStart(list[i], list[first:i])
		default:
			w.putOther(list[i])
		}
		first = i + 1
	}
	return w.text
}

func (w *writer) put(s string) {
	w.text = append(w.text, s...)
}

// putStart writes the tag of a Start, of which its Binds are attributes too.
func (w *writer) putStart(e api.Event, binds []api.Event) {
	w.put("<" + e.Name)
	for i := 0; i < len(binds); i++ {
		name := spaces.Declaration(binds[i].Name)
		w.putAttribute(name, binds[i].Value)
	}
	for i := 0; i < len(e.Attrs); i++ {
		w.putAttribute(e.Attrs[i].Name, e.Attrs[i].Value)
	}
	w.put(">")
}

func (w *writer) putAttribute(name, value string) {
	w.put(" " + name + "=\"")
	w.putValue(value)
	w.put("\"")
}

func (w *writer) putOther(e api.Event) {
	switch e.Kind {
	case api.End:
		w.put("</" + e.Name + ">")
	case api.Text:
		w.putText(e.Value)
	case api.Comment:
		w.put("<!--" + e.Value + "-->")
	case api.Instruction:
		w.putInstruction(e)
	}
}

func (w *writer) putInstruction(e api.Event) {
	w.put("<?" + e.Name)
	if e.Value != "" {
		w.put(" " + e.Value)
	}
	w.put("?>")
}

func (w *writer) putText(s string) {
	for i := 0; i < len(s); i++ {
		reference := referenceInText(s[i])
		w.putEither(s[i], reference)
	}
}

func (w *writer) putValue(s string) {
	for i := 0; i < len(s); i++ {
		reference := referenceInValue(s[i])
		w.putEither(s[i], reference)
	}
}

func (w *writer) putEither(b byte, reference string) {
	if reference == "" {
		w.text = append(w.text, b)
		return
	}
	w.put(reference)
}
