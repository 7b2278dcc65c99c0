// Package reader reads a text byte by byte, and gathers the events that its bytes tell.
package reader

import (
	"markup/api"
	"markup/chars"
	"markup/refs"
	"markup/spaces"
)

// Reader is how a text that was read so far can go on.
type Reader struct {
	options api.Options
	state   int

	open []string // the names of the open elements, the outermost first
	over bool     // the outermost element has ended

	scope spaces.Scope // with Names alone; a tag whose attributes have ended is in it already

	token []byte // what has come of a name, a value, a comment or an instruction
	count int    // its characters
	name  string // the name of the tag or of the instruction
	attr  string // the name of the attribute
	attrs []api.Attr
	quote byte // what ends the value

	held     string // what may belong to the end of a comment, an instruction or a section, or to its characters
	brackets int    // how many "]" stand right ahead in text; two at most are counted
	matched  int    // how many bytes of a known word have come

	part     chars.Part
	ref      refs.Ref
	returned bool // the last byte was a byte d

	// Where the character stands that comes next or that is begun.
	line, column int

	told told
}

// Make gives a reader of a text of which nothing was read.
func Make(o api.Options) Reader {
	return Reader{options: o, state: outside, scope: spaces.Make(), line: 1, column: 1}
}

// Read reads one byte, and answers its error if it is the wrong byte: then the reader must read no more.
func (r *Reader) Read(b byte) api.Errno {
	// Every rule treats the bytes d and a alike: so each line's end can be read as one byte a, and nothing further in
	// needs to know of the others.
	if b == '\n' && r.returned {
		r.returned = false
		return api.OK
	}
	r.returned = b == '\r'
	if r.returned {
		b = '\n'
	}
	e := r.readByte(b)
	// The wrong byte leaves the place where it is: at the character that this byte begins or should have gone on with.
	if e == api.OK {
		r.movePlace(b)
	}
	return e
}

func (r *Reader) movePlace(b byte) {
	switch {
	case b == '\n':
		r.line++
		r.column = 1
	case r.part.Left == 0:
		r.column++
	}
}

// Take hands out what was told since the last Take.
func (r *Reader) Take() []api.Event {
	return r.told.take()
}

// Place tells the line and the column of the character that comes next or that is begun.
func (r *Reader) Place() (int, int) {
	return r.line, r.column
}

// Open gives the names of the open elements, in a list that is the caller's.
func (r *Reader) Open() []string {
	var open []string
	open = append(open, r.open...)
	return open
}

// IsDocument tells whether the text that was read is a document.
func (r *Reader) IsDocument() bool {
	return r.over && r.state == outside
}

func (r *Reader) readByte(b byte) api.Errno {
	if r.part.Left > 0 {
		return r.readPart(b)
	}
	if r.ref.IsOpen() {
		return r.readReference(b)
	}
	switch r.state {
	case outside:
		return r.readOutside(b)
	case inContent:
		return r.readContent(b)
	case inSection:
		return r.readSection(b)
	case inComment:
		return r.readComment(b)
	case inInstruction:
		return r.readInstruction(b)
	case inValue:
		return r.readValue(b)
	}
	return r.readMark(b)
}

func (r *Reader) readMark(b byte) api.Errno {
	switch r.state {
	case behindLess:
		return r.readLess(b)
	case behindBang:
		return r.readBang(b)
	case behindDash:
		return r.readDash(b)
	case inSectionMark:
		return r.readSectionMark(b)
	case inInstructionName:
		return r.readInstructionName(b)
	case behindBareInstruction:
		return r.readBareInstruction(b)
	case behindInstructionName:
		return r.readInstructionSpace(b)
	case inEndName:
		return r.readEndName(b)
	case behindEndName:
		return r.readEndSpace(b)
	}
	return r.readStartTag(b)
}

func (r *Reader) readStartTag(b byte) api.Errno {
	switch r.state {
	case inStartName:
		return r.readStartName(b)
	case behindStartSpace:
		return r.readStartSpace(b)
	case inAttrName:
		return r.readAttrName(b)
	case behindAttrName:
		return r.readAttrSpace(b)
	case behindEquals:
		return r.readEquals(b)
	case behindValue:
		return r.readStartGap(b)
	}
	return r.readSlash(b)
}

// resume goes back to what lies around a tag, a comment or an instruction.
func (r *Reader) resume() {
	r.state = inContent
	if len(r.open) == 0 {
		r.state = outside
	}
}
