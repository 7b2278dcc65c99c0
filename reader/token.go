package reader

import (
	"markup/api"
	"markup/chars"
)

// inText tells whether characters are told as they come; elsewhere they are part of a token, which has a bound.
func (r *Reader) inText() bool {
	return r.state == inContent || r.state == inSection
}

// fits tells whether there is room for some characters more.
func (r *Reader) fits(more int) bool {
	return r.inText() || r.count+more <= r.options.Token
}

func (r *Reader) put(code int) {
	bytes := chars.Encode(code)
	if r.inText() {
		r.told.text = append(r.told.text, bytes...)
		return
	}
	r.token = append(r.token, bytes...)
	r.count++
}

// takeToken gives the token that has ended, and makes room for the next.
func (r *Reader) takeToken() string {
	token := string(r.token)
	r.token = nil
	r.count = 0
	return token
}

func (r *Reader) lengthenName(b byte) api.Errno {
	if !r.fits(1) {
		return api.ErrLimit
	}
	r.put(int(b))
	return api.OK
}

// readCharacter reads the first byte of a character. What was held back ahead of it is no part of an end then.
func (r *Reader) readCharacter(b byte) api.Errno {
	part, good := chars.Begin(b)
	if !good {
		return api.ErrChar
	}
	if !r.fits(len(r.held) + 1) {
		return api.ErrLimit
	}
	for i := 0; i < len(r.held); i++ {
		r.put(int(r.held[i]))
	}
	r.held = ""
	r.goOn(part)
	return api.OK
}

func (r *Reader) readPart(b byte) api.Errno {
	part, good := r.part.Next(b)
	if !good {
		return api.ErrChar
	}
	r.goOn(part)
	return api.OK
}

func (r *Reader) goOn(part chars.Part) {
	r.part = part
	if part.Left == 0 {
		r.put(part.Code)
	}
}

func (r *Reader) readReference(b byte) api.Errno {
	ref, good := r.ref.Next(b)
	if !good {
		return api.ErrRef
	}
	r.ref = ref
	if !ref.IsOpen() {
		r.put(ref.Code())
	}
	return api.OK
}
