// Package chars knows the bytes and the characters that a text is made of.
package chars

// IsSpace tells whether a byte is a space.
func IsSpace(b byte) bool {
	return b == ' ' || b == '\t' || b == '\n' || b == '\r'
}

// BeginsName tells whether a name can begin with a byte.
func BeginsName(b byte) bool {
	return isLetter(b) || b == '_' || b == ':'
}

// InName tells whether a byte can stand in a name behind its first one.
func InName(b byte) bool {
	return BeginsName(b) || isDigit(b) || b == '-' || b == '.'
}

func isLetter(b byte) bool {
	return b >= 'A' && b <= 'Z' || b >= 'a' && b <= 'z'
}

func isDigit(b byte) bool {
	return b >= '0' && b <= '9'
}

// Digit tells the number that a digit of a base up to 16 stands for, or false if the byte is no such digit.
func Digit(b byte, base int) (int, bool) {
	value := base
	switch {
	case isDigit(b):
		value = int(b) - '0'
	case b >= 'A' && b <= 'F':
		value = int(b) - 'A' + 10
	case b >= 'a' && b <= 'f':
		value = int(b) - 'a' + 10
	}
	if value >= base {
		return 0, false
	}
	return value, true
}

// Last is the greatest code point of a character.
const Last = 0x10ffff

// IsCharacter tells whether a code point is one of a character.
func IsCharacter(code int) bool {
	switch {
	case code < 0x20:
		return code == 9 || code == 0xa || code == 0xd
	case code < 0x10000:
		return code <= 0xd7ff || code >= 0xe000 && code <= 0xfffd
	}
	return code <= Last
}

// Encode gives the bytes of a character.
func Encode(code int) []byte {
	switch {
	case code < 0x80:
		return []byte{byte(code)}
	case code < 0x800:
		return []byte{byte(0xc0 + code/64), tail(code)}
	case code < 0x10000:
		return []byte{byte(0xe0 + code/4096), tail(code / 64), tail(code)}
	}
	return []byte{byte(0xf0 + code/262144), tail(code / 4096), tail(code / 64), tail(code)}
}

func tail(code int) byte {
	return byte(0x80 + code%64)
}
