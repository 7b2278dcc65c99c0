package refs

import (
	"fmt"
	"testing"

	"markup/chars"
)

// begun reads what stands behind "&", and tells how many bytes went well.
func begun(text string) (Ref, int) {
	r := Begin()
	for i := 0; i < len(text); i++ {
		next, good := r.Next(text[i])
		if !good {
			return r, i
		}
		r = next
	}
	return r, len(text)
}

// read tells how many bytes went well and the code point, or -1 if there is none.
func read(text string) (int, int) {
	r, n := begun(text)
	if n < len(text) || r.IsOpen() {
		return n, -1
	}
	return n, r.Code()
}

func TestReferences(t *testing.T) {
	for _, c := range []struct {
		text       string
		read, code int
	}{
		{"lt;", 3, '<'}, {"gt;", 3, '>'}, {"amp;", 4, '&'}, {"quot;", 5, '"'}, {"apos;", 5, '\''},
		{"", 0, -1}, {"a", 1, -1}, {"ap", 2, -1}, {"quot", 4, -1}, {"#", 1, -1}, {"#x", 2, -1}, {"#x41", 4, -1},
		{"#65;", 4, 'A'}, {"#x41;", 5, 'A'}, {"#x10FfFf;", 9, 0x10ffff}, {"#1114111;", 9, 0x10ffff},
		{"#00000000000000000000000000000000000000065;", 43, 'A'}, {"#x00000000000000000000000000000009;", 35, 9},
		{";", 0, -1}, {"lt ", 2, -1}, {"LT;", 0, -1}, {"ltt", 2, -1}, {"amq", 2, -1}, {"apoz", 3, -1}, {"quo;", 3, -1},
		{"#;", 1, -1}, {"#x;", 2, -1}, {"#X41;", 1, -1}, {"#a;", 1, -1}, {"#xg;", 2, -1}, {"#1a;", 2, -1}, {"x41;", 0, -1},
		{"#x110000;", 7, -1}, {"#x1100000;", 7, -1}, {"#1114112;", 7, -1}, {"#x10ffff0;", 8, -1}, {"#99999999999999999999;", 7, -1},
		{"#0;", 2, -1}, {"#000;", 4, -1}, {"#x1f;", 4, -1}, {"#xd800;", 6, -1}, {"#xdfff;", 6, -1}, {"#xfffe;", 6, -1}, {"#65535;", 6, -1},
		{"#xd7ff;", 7, 0xd7ff}, {"#xe000;", 7, 0xe000}, {"#xfffd;", 7, 0xfffd}, {"#xd8000;", 8, 0xd8000}, {"#xffff0;", 8, 0xffff0},
	} {
		if n, code := read(c.text); n != c.read || code != c.code {
			t.Errorf("&%s: %d bytes, code %x; want %d, %x", c.text, n, code, c.read, c.code)
		}
	}
}

// TestEveryNumber: each code point as a reference, and that each number that is taken can still become a character.
func TestEveryNumber(t *testing.T) {
	for code := 0; code <= 0x110010; code++ {
		for _, form := range []string{"#%d", "#x%x", "#x%X", "#00%d", "#x0%x"} {
			text := fmt.Sprintf(form, code)
			n, _ := read(text)
			if (n == len(text)) != (code <= 0x10ffff) {
				t.Fatalf("&%s: %d bytes", text, n)
			}
			got, want := 0, -1
			if chars.IsCharacter(code) {
				want = code
			}
			if _, got = read(text + ";"); got != want {
				t.Fatalf("&%s;: %x", text, got)
			}
			if n == len(text) {
				mindRest(t, text)
			}
		}
	}
}

// mindRest: what is taken can still become a reference, and Rest says by which bytes.
func mindRest(t *testing.T, text string) {
	t.Helper()
	r, _ := begun(text)
	rest := r.Rest()
	if n, code := read(text + rest); n != len(text+rest) || !chars.IsCharacter(code) || len(rest) > 5 {
		t.Fatalf("&%s: the rest is %s: %d bytes, code %x", text, rest, n, code)
	}
}

func TestRest(t *testing.T) {
	for _, text := range []string{"lt;", "gt;", "amp;", "quot;", "apos;", "#x0009;", "#09;", "#x", "#", "#000", "#x000", "#31", "#x1F", "#xFFFF"} {
		for n := 0; n <= len(text); n++ {
			mindRest(t, text[:n])
		}
		if r, _ := begun(text); !r.IsOpen() && r.Rest() != "" {
			t.Errorf("&%s, ended: the rest is %s", text, r.Rest())
		}
	}
	if r := (Ref{}); r.Rest() != "" {
		t.Errorf("the rest of no reference is %s", r.Rest())
	}
}

func TestNothingBehindTheEnd(t *testing.T) {
	if r := (Ref{}); r.IsOpen() {
		t.Error("the zero reference is open")
	}
	for _, text := range []string{"lt;;", "#65;;", "#65;1"} {
		if n, _ := read(text); n != len(text)-1 {
			t.Errorf("&%s: %d bytes", text, n)
		}
	}
}
