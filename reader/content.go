package reader

import (
	"markup/api"
	"markup/chars"
	"markup/refs"
)

const sectionMark = "CDATA["

func (r *Reader) readOutside(b byte) api.Errno {
	switch {
	case chars.IsSpace(b):
		return api.OK
	case b == '<':
		r.state = behindLess
		return api.OK
	}
	return api.ErrSyntax
}

func (r *Reader) readContent(b byte) api.Errno {
	brackets := r.brackets
	r.brackets = 0
	switch b {
	case '<':
		r.state = behindLess
		return api.OK
	case '&':
		r.ref = refs.Begin()
		return api.OK
	case '>':
		if brackets == 2 {
			return api.ErrSyntax
		}
	case ']':
		r.brackets = 2
		if brackets == 0 {
			r.brackets = 1
		}
	}
	return r.readCharacter(b)
}

func (r *Reader) readSection(b byte) api.Errno {
	switch {
	case b == '>' && r.held == "]]":
		r.held = ""
		r.state = inContent
		return api.OK
	case b == ']' && r.held == "]]":
		r.put(']')
		return api.OK
	case b == ']':
		r.held = r.held + "]"
		return api.OK
	}
	return r.readCharacter(b)
}

func (r *Reader) readLess(b byte) api.Errno {
	switch {
	case b == '!':
		r.state = behindBang
		return api.OK
	case b == '?':
		r.state = inInstructionName
		return api.OK
	case b == '/' && len(r.open) > 0:
		r.state = inEndName
		r.matched = 0
		return api.OK
	case chars.BeginsName(b) && !r.over:
		return r.beginStart(b)
	}
	return api.ErrSyntax
}

func (r *Reader) readBang(b byte) api.Errno {
	switch {
	case b == '-':
		r.state = behindDash
		return api.OK
	case b == '[' && len(r.open) > 0:
		r.state = inSectionMark
		r.matched = 0
		return api.OK
	}
	return api.ErrSyntax
}

func (r *Reader) readSectionMark(b byte) api.Errno {
	if r.matched >= len(sectionMark) || sectionMark[r.matched] != b {
		return api.ErrSyntax
	}
	r.matched++
	if r.matched == len(sectionMark) {
		r.state = inSection
	}
	return api.OK
}
