package reader

import (
	"markup/api"
	"markup/chars"
	"markup/spaces"
)

func (r *Reader) readDash(b byte) api.Errno {
	if b != '-' {
		return api.ErrSyntax
	}
	r.state = inComment
	return api.OK
}

func (r *Reader) readComment(b byte) api.Errno {
	switch {
	case r.held == "--" && b == '>':
		r.endComment()
		return api.OK
	case r.held == "--":
		return api.ErrSyntax
	case b == '-':
		r.held = r.held + "-"
		return api.OK
	}
	return r.readCharacter(b)
}

func (r *Reader) endComment() {
	r.held = ""
	value := r.takeToken()
	r.told.add(api.Event{Kind: api.Comment, Value: value})
	r.resume()
}

func (r *Reader) readInstructionName(b byte) api.Errno {
	switch {
	case r.count == 0 && !chars.BeginsName(b):
		return api.ErrSyntax
	case chars.InName(b):
		return r.lengthenName(b)
	case isXML(r.token) || b != '?' && !chars.IsSpace(b):
		return api.ErrSyntax
	case r.options.Names && spaces.HasColon(string(r.token)):
		return api.ErrSpace
	}
	r.name = r.takeToken()
	r.state = behindInstructionName
	if b == '?' {
		r.state = behindBareInstruction
	}
	return api.OK
}

func isXML(name []byte) bool {
	return len(name) == 3 && (name[0] == 'x' || name[0] == 'X') && (name[1] == 'm' || name[1] == 'M') && (name[2] == 'l' || name[2] == 'L')
}

func (r *Reader) readBareInstruction(b byte) api.Errno {
	if b != '>' {
		return api.ErrSyntax
	}
	r.endInstruction()
	return api.OK
}

func (r *Reader) readInstructionSpace(b byte) api.Errno {
	if chars.IsSpace(b) {
		return api.OK
	}
	r.state = inInstruction
	return r.readInstruction(b)
}

func (r *Reader) readInstruction(b byte) api.Errno {
	switch {
	case b == '>' && r.held == "?":
		r.endInstruction()
		return api.OK
	case b == '?' && r.held == "?":
		if !r.fits(1) {
			return api.ErrLimit
		}
		r.put('?')
		return api.OK
	case b == '?':
		r.held = "?"
		return api.OK
	}
	return r.readCharacter(b)
}

func (r *Reader) endInstruction() {
	r.held = ""
	value := r.takeToken()
	r.told.add(api.Event{Kind: api.Instruction, Name: r.name, Value: value})
	r.name = ""
	r.resume()
}
