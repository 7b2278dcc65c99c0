package chars

// Part is what has come of a character: Left bytes are still to come. With none to come, Code is its code point.
type Part struct {
	Code, Left int
}

// Begin reads the first byte of a character, or tells false if no character begins with it.
func Begin(b byte) (Part, bool) {
	switch {
	case b < 0x80 && IsCharacter(int(b)):
		return Part{Code: int(b)}, true
	case b >= 0xc2 && b <= 0xdf:
		return Part{Code: int(b) - 0xc0, Left: 1}, true
	case b >= 0xe0 && b <= 0xef:
		return Part{Code: int(b) - 0xe0, Left: 2}, true
	case b >= 0xf0 && b <= 0xf4:
		return Part{Code: int(b) - 0xf0, Left: 3}, true
	}
	return Part{}, false
}

// Next reads the next byte of a character that is begun, or tells false if no character goes on with it.
func (p Part) Next(b byte) (Part, bool) {
	if b < 0x80 || b > 0xbf {
		return Part{}, false
	}
	next := Part{Code: p.Code*64 + int(b) - 0x80, Left: p.Left - 1}
	if !next.canEnd() {
		return Part{}, false
	}
	return next, true
}

// Rest gives bytes that complete a character that is begun.
func (p Part) Rest() []byte {
	var rest []byte
	for left := p.Left; left > 0; left-- {
		b := byte(0x80)
		next, good := p.Next(b)
		for !good && b < 0xbf {
			b++
			next, good = p.Next(b)
		}
		rest = append(rest, b)
		p = next
	}
	return rest
}

// canEnd tells whether some character has these leading bits: what makes a form too long, a surrogate or a code point
// beyond the last is sure as soon as the second byte has come, and must not wait for the last one.
func (p Part) canEnd() bool {
	switch p.Left {
	case 2:
		return p.Code >= 0x10000/4096 && p.Code <= Last/4096
	case 1:
		return p.Code >= 0x800/64 && (p.Code < 0xd800/64 || p.Code > 0xdfff/64)
	}
	return IsCharacter(p.Code)
}
