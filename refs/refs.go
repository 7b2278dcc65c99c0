// Package refs reads references, such as &lt; and &#x20;, byte by byte.
package refs

import "markup/chars"

// Where a reference stands.
const (
	none          = 0
	behindAnd     = 1
	inName        = 2
	behindHash    = 3 // behind "&#"
	behindX       = 4 // behind "&#x"
	inDecimal     = 5
	inHexadecimal = 6
	ended         = 7
)

// The names, each with the byte that ends it, and their characters in the same order.
var names = [5]string{"lt;", "gt;", "amp;", "quot;", "apos;"}
var named = [5]int{'<', '>', '&', '"', '\''}

// Ref is a reference that is being read. The zero one is none.
type Ref struct {
	place int
	name  string
	// code is no greater than the last code point: more digits can then not run over, however many come.
	code int
}

// Begin gives a reference of which the "&" was read.
func Begin() Ref {
	return Ref{place: behindAnd}
}

// IsOpen tells whether a reference is begun and not ended.
func (r Ref) IsOpen() bool {
	return r.place != none && r.place != ended
}

// Code tells the code point of a reference that is ended.
func (r Ref) Code() int {
	return r.code
}

// Next reads one byte of an open reference, or tells false if no reference goes on with it.
func (r Ref) Next(b byte) (Ref, bool) {
	switch r.place {
	case behindAnd:
		if b == '#' {
			return Ref{place: behindHash}, true
		}
		return r.letter(b)
	case inName:
		return r.letter(b)
	case behindHash:
		if b == 'x' {
			return Ref{place: behindX}, true
		}
		return r.digit(b, 10, inDecimal)
	case inDecimal:
		return r.digitOrEnd(b, 10, inDecimal)
	case behindX:
		return r.digit(b, 16, inHexadecimal)
	case inHexadecimal:
		return r.digitOrEnd(b, 16, inHexadecimal)
	}
	return Ref{}, false
}

// Rest gives bytes that complete an open reference, and none if there is no open one.
func (r Ref) Rest() string {
	switch r.place {
	case behindAnd, inName:
		return r.restOfName()
	case behindHash, inDecimal:
		return r.restOfNumber(10)
	case behindX, inHexadecimal:
		return r.restOfNumber(16)
	}
	return ""
}

func (r Ref) restOfName() string {
	for i := 0; i < len(names); i++ {
		if begins(names[i], r.name) {
			return names[i][len(r.name):]
		}
	}
	return ""
}

// restOfNumber needs two noughts at most to make a number that of a character, but for 0, as which a number counts too
// that has no digits yet: noughts would not change it.
func (r Ref) restOfNumber(base int) string {
	switch {
	case chars.IsCharacter(r.code):
		return ";"
	case chars.IsCharacter(r.code * base):
		return "0;"
	case chars.IsCharacter(r.code * base * base):
		return "00;"
	}
	return "9;"
}

func (r Ref) letter(b byte) (Ref, bool) {
	name := r.name + string([]byte{b})
	for i := 0; i < len(names); i++ {
		if names[i] == name {
			return Ref{place: ended, code: named[i]}, true
		}
		if begins(names[i], name) {
			return Ref{place: inName, name: name}, true
		}
	}
	return Ref{}, false
}

func begins(whole, beginning string) bool {
	return len(beginning) <= len(whole) && whole[:len(beginning)] == beginning
}

func (r Ref) digitOrEnd(b byte, base int, place int) (Ref, bool) {
	if b != ';' {
		return r.digit(b, base, place)
	}
	if !chars.IsCharacter(r.code) {
		return Ref{}, false
	}
	return Ref{place: ended, code: r.code}, true
}

// digit takes every number up to the last code point: one that is itself no character becomes one by some digits more.
func (r Ref) digit(b byte, base int, place int) (Ref, bool) {
	value, good := chars.Digit(b, base)
	code := r.code*base + value
	if !good || code > chars.Last {
		return Ref{}, false
	}
	return Ref{place: place, code: code}, true
}
