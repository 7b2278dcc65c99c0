package chars

import (
	"testing"
	"unicode/utf8"
)

// isCharacter is the document's list of code points, said another way than in the program.
func isCharacter(r rune) bool {
	if r == 9 || r == 10 || r == 13 {
		return true
	}
	return r >= 0x20 && utf8.ValidRune(r) && r != 0xfffe && r != 0xffff
}

func TestIsCharacter(t *testing.T) {
	for code := -1; code <= 0x110001; code++ {
		if IsCharacter(code) != isCharacter(rune(code)) {
			t.Errorf("IsCharacter(%x) is %v", code, IsCharacter(code))
		}
	}
}

func TestEncode(t *testing.T) {
	for r := rune(0); r <= utf8.MaxRune; r++ {
		if isCharacter(r) && string(Encode(int(r))) != string(r) {
			t.Errorf("Encode(%x) is % x", r, Encode(int(r)))
		}
	}
}

// begun holds each beginning of each character.
func begun() map[string]bool {
	all := map[string]bool{}
	for r := rune(0); r <= utf8.MaxRune; r++ {
		if !isCharacter(r) {
			continue
		}
		bytes := string(r)
		for n := 1; n <= len(bytes); n++ {
			all[bytes[:n]] = true
		}
	}
	return all
}

// TestParts goes on from each beginning of a character with each byte: it must be taken just if some character begins so.
func TestParts(t *testing.T) {
	all := begun()
	var walk func(text string, part Part)
	walk = func(text string, part Part) {
		for b := 0; b < 256; b++ {
			longer := text + string([]byte{byte(b)})
			next, good := part.Next(byte(b))
			if text == "" {
				next, good = Begin(byte(b))
			}
			if good != all[longer] {
				t.Fatalf("% x: %v", longer, good)
			}
			if !good {
				continue
			}
			r, size := utf8.DecodeRuneInString(longer)
			whole := isCharacter(r) && size == len(longer) && (r != utf8.RuneError || size == 3)
			if whole != (next.Left == 0) || whole && next.Code != int(r) {
				t.Fatalf("% x: %+v", longer, next)
			}
			if completed := longer + string(next.Rest()); !all[completed] || utf8.RuneCountInString(completed) != 1 || whole && completed != longer {
				t.Fatalf("% x: the rest is % x", longer, next.Rest())
			}
			if !whole {
				walk(longer, next)
			}
		}
	}
	walk("", Part{})
}

func TestNames(t *testing.T) {
	const letters = "ABCDEFGHIJKLMNOPQRSTUVWXYZabcdefghijklmnopqrstuvwxyz"
	for b := 0; b < 256; b++ {
		first := contains(letters+"_:", byte(b))
		later := first || contains("0123456789-.", byte(b))
		if BeginsName(byte(b)) != first || InName(byte(b)) != later {
			t.Errorf("%x: %v, %v", b, BeginsName(byte(b)), InName(byte(b)))
		}
		if IsSpace(byte(b)) != contains(" \t\r\n", byte(b)) {
			t.Errorf("%x: IsSpace is %v", b, IsSpace(byte(b)))
		}
	}
}

func TestDigit(t *testing.T) {
	for b := 0; b < 256; b++ {
		for _, base := range []int{10, 16} {
			want, isDigit := 0, false
			for _, digits := range []string{"0123456789abcdef"[:base], "0123456789ABCDEF"[:base]} {
				for i := 0; i < len(digits); i++ {
					if digits[i] == byte(b) {
						want, isDigit = i, true
					}
				}
			}
			if got, good := Digit(byte(b), base); got != want || good != isDigit {
				t.Errorf("Digit(%x, %d) is %d, %v", b, base, got, good)
			}
		}
	}
}

func contains(list string, b byte) bool {
	for i := 0; i < len(list); i++ {
		if list[i] == b {
			return true
		}
	}
	return false
}
