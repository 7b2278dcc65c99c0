package markup_test

import (
	"testing"

	"markup/api"
)

// set is a set of bytes.
type set [256]bool

func of(list string) set {
	var s set
	for i := 0; i < len(list); i++ {
		s[list[i]] = true
	}
	return s
}

func between(first, last byte) set {
	var s set
	for b := int(first); b <= int(last); b++ {
		s[b] = true
	}
	return s
}

func (s set) and(other set) set {
	for b := range other {
		s[b] = s[b] || other[b]
	}
	return s
}

func (s set) but(list string) set {
	for i := 0; i < len(list); i++ {
		s[list[i]] = false
	}
	return s
}

var (
	spaces     = of(" \t\r\n")
	nameFirst  = between('A', 'Z').and(between('a', 'z')).and(of("_:"))
	nameLater  = nameFirst.and(between('0', '9')).and(of("-."))
	characters = of("\t\n\r").and(between(0x20, 0x7f)).and(between(0xc2, 0xf4)) // the first bytes of all
	digits     = between('0', '9')
	hexdigits  = digits.and(between('A', 'F')).and(between('a', 'f'))
	tails      = between(0x80, 0xbf)
)

// rule: the bytes of a set are wrong with this error.
type rule struct {
	bytes set
	err   api.Errno
}

// context: behind a text, some bytes are good; of the wrong ones the first rule that has them tells the error, and else it
// is rest.
type context struct {
	text  string
	good  set
	rules []rule
	rest  api.Errno
}

const (
	full  = "1234567890123456" // as many characters as Token
	fewer = "123456789012345"
	long  = "abcdefghijklmnop" // a name of that many
)

var contexts = []context{
	// outside of the outermost element, and behind a "<"
	{"", spaces.and(of("<")), nil, api.ErrSyntax},
	{"<!----> ", spaces.and(of("<")), nil, api.ErrSyntax},
	{"<a/>", spaces.and(of("<")), nil, api.ErrSyntax},
	{"<a></a>\r", spaces.and(of("<")), nil, api.ErrSyntax},
	{"<", nameFirst.and(of("!?")), nil, api.ErrSyntax},
	{"<a/><", of("!?"), nil, api.ErrSyntax},
	{"<a><", nameFirst.and(of("!?/")), nil, api.ErrSyntax},
	{"<!", of("-"), nil, api.ErrSyntax},
	{"<a/><!", of("-"), nil, api.ErrSyntax},
	{"<a><!", of("-["), nil, api.ErrSyntax},
	{"<!-", of("-"), nil, api.ErrSyntax},
	{"<a><![", of("C"), nil, api.ErrSyntax},
	{"<a><![C", of("D"), nil, api.ErrSyntax},
	{"<a><![CD", of("A"), nil, api.ErrSyntax},
	{"<a><![CDA", of("T"), nil, api.ErrSyntax},
	{"<a><![CDAT", of("A"), nil, api.ErrSyntax},
	{"<a><![CDATA", of("["), nil, api.ErrSyntax},

	// start tags
	{"<a", nameLater.and(spaces).and(of("/>")), nil, api.ErrSyntax},
	{"<a\n", nameFirst.and(spaces).and(of("/>")), nil, api.ErrSyntax},
	{"<a/", of(">"), nil, api.ErrSyntax},
	{"<a b", nameLater.and(spaces).and(of("=")), nil, api.ErrSyntax},
	{"<a b ", spaces.and(of("=")), nil, api.ErrSyntax},
	{"<a b=", spaces.and(of("'\"")), nil, api.ErrSyntax},
	{"<a b=\t", spaces.and(of("'\"")), nil, api.ErrSyntax},
	{"<a b=''", spaces.and(of("/>")), nil, api.ErrSyntax},
	{"<a b='' ", nameFirst.and(spaces).and(of("/>")), nil, api.ErrSyntax},
	{"<a b='' b", nameLater, []rule{{spaces.and(of("=")), api.ErrTwice}}, api.ErrSyntax},
	{"<a bc='' b", nameLater.and(spaces).and(of("=")), nil, api.ErrSyntax},
	{"<a b='' cc='' d='' cc", nameLater, []rule{{spaces.and(of("=")), api.ErrTwice}}, api.ErrSyntax},
	{"<b b", nameLater.and(spaces).and(of("=")), nil, api.ErrSyntax},

	// values
	{"<a b='", characters.but("<"), []rule{{of("<"), api.ErrSyntax}}, api.ErrChar},
	{"<a b=\"x", characters.but("<"), []rule{{of("<"), api.ErrSyntax}}, api.ErrChar},
	{"<a b='\xe2", tails, nil, api.ErrChar},
	{"<a b='\r\xe2\x82", tails, nil, api.ErrChar},
	{"<a b='&", of("lgaq#"), nil, api.ErrRef},

	// content
	{"<a>", characters, nil, api.ErrChar},
	{"<a>x", characters, nil, api.ErrChar},
	{"<a><b/>", characters, nil, api.ErrChar},
	{"<a><!---->", characters, nil, api.ErrChar},
	{"<a><?t?>", characters, nil, api.ErrChar},
	{"<a>]", characters, nil, api.ErrChar},
	{"<a>]]", characters.but(">"), []rule{{of(">"), api.ErrSyntax}}, api.ErrChar},
	{"<a>]]]", characters.but(">"), []rule{{of(">"), api.ErrSyntax}}, api.ErrChar},
	{"<a>]]\r", characters, nil, api.ErrChar},
	{"<a>]]<b></b>", characters, nil, api.ErrChar},
	{"<a>]<![CDATA[]]>", characters, nil, api.ErrChar},
	{"<a>]]&#93;", characters, nil, api.ErrChar},

	// characters of several bytes
	{"<a>\xc2", tails, nil, api.ErrChar},
	{"<a>\xdf", tails, nil, api.ErrChar},
	{"<a>\xe0", between(0xa0, 0xbf), nil, api.ErrChar},
	{"<a>\xe1", tails, nil, api.ErrChar},
	{"<a>\xec", tails, nil, api.ErrChar},
	{"<a>\xed", between(0x80, 0x9f), nil, api.ErrChar},
	{"<a>\xee", tails, nil, api.ErrChar},
	{"<a>\xef", tails, nil, api.ErrChar},
	{"<a>\xef\xbe", tails, nil, api.ErrChar},
	{"<a>\xef\xbf", between(0x80, 0xbd), nil, api.ErrChar},
	{"<a>\xf0", between(0x90, 0xbf), nil, api.ErrChar},
	{"<a>\xf0\x9f", tails, nil, api.ErrChar},
	{"<a>\xf0\x9f\xbf", tails, nil, api.ErrChar},
	{"<a>\xf3", tails, nil, api.ErrChar},
	{"<a>\xf4", between(0x80, 0x8f), nil, api.ErrChar},
	{"<a>\xf4\x8f\xbf", tails, nil, api.ErrChar},

	// references
	{"<a>&", of("lgaq#"), nil, api.ErrRef},
	{"<a>&l", of("t"), nil, api.ErrRef},
	{"<a>&lt", of(";"), nil, api.ErrRef},
	{"<a>&g", of("t"), nil, api.ErrRef},
	{"<a>&a", of("mp"), nil, api.ErrRef},
	{"<a>&am", of("p"), nil, api.ErrRef},
	{"<a>&ap", of("o"), nil, api.ErrRef},
	{"<a>&quo", of("t"), nil, api.ErrRef},
	{"<a>&quot", of(";"), nil, api.ErrRef},
	{"<a>&#", digits.and(of("x")), nil, api.ErrRef},
	{"<a>&#x", hexdigits, nil, api.ErrRef},
	{"<a>&#0", digits, nil, api.ErrRef},
	{"<a>&#x0", hexdigits, nil, api.ErrRef},
	{"<a>&#65", digits.and(of(";")), nil, api.ErrRef},
	{"<a>&#x1f", hexdigits, nil, api.ErrRef},
	{"<a>&#xd800", hexdigits, nil, api.ErrRef},
	{"<a>&#x10fff", hexdigits.and(of(";")), nil, api.ErrRef},
	{"<a>&#x11000", of(";"), nil, api.ErrRef},
	{"<a>&#111411", of("01;"), nil, api.ErrRef},
	{"<a>&#x10ffff", of(";"), nil, api.ErrRef},

	// end tags
	{"<a></", of("a"), nil, api.ErrMatch},
	{"<a></a", spaces.and(of(">")), []rule{{nameLater, api.ErrMatch}}, api.ErrSyntax},
	{"<a></a\r", spaces.and(of(">")), nil, api.ErrSyntax},
	{"<a><b:-><c/></b", of(":"), nil, api.ErrMatch},
	{"<a><b></b></", of("a"), nil, api.ErrMatch},
	{"<" + long + "></" + long, spaces.and(of(">")), []rule{{nameLater, api.ErrMatch}}, api.ErrSyntax},

	// comments
	{"<!--", characters, nil, api.ErrChar},
	{"<!---", characters, nil, api.ErrChar},
	{"<!----", of(">"), nil, api.ErrSyntax},
	{"<a><!--x", characters, nil, api.ErrChar},
	{"<a><!--x-", characters, nil, api.ErrChar},
	{"<a><!--x--", of(">"), nil, api.ErrSyntax},
	{"<!--\xf0", between(0x90, 0xbf), nil, api.ErrChar},
	{"<!---\xf0\x90", tails, nil, api.ErrChar},

	// instructions
	{"<?", nameFirst, nil, api.ErrSyntax},
	{"<?t", nameLater.and(spaces).and(of("?")), nil, api.ErrSyntax},
	{"<?xm", nameLater.and(spaces).and(of("?")), nil, api.ErrSyntax},
	{"<?xml", nameLater, nil, api.ErrSyntax},
	{"<a><?xMl", nameLater, nil, api.ErrSyntax},
	{"<a/><?XML", nameLater, nil, api.ErrSyntax},
	{"<?xmlx", nameLater.and(spaces).and(of("?")), nil, api.ErrSyntax},
	{"<?xnl", nameLater.and(spaces).and(of("?")), nil, api.ErrSyntax},
	{"<?t?", of(">"), nil, api.ErrSyntax},
	{"<?t ", characters, nil, api.ErrChar},
	{"<?t\r", characters, nil, api.ErrChar},
	{"<?t ?", characters, nil, api.ErrChar},
	{"<?t x", characters, nil, api.ErrChar},
	{"<?t x?", characters, nil, api.ErrChar},
	{"<?t \xef", tails, nil, api.ErrChar},

	// sections
	{"<a><![CDATA[", characters, nil, api.ErrChar},
	{"<a><![CDATA[]", characters, nil, api.ErrChar},
	{"<a><![CDATA[]]", characters, nil, api.ErrChar},
	{"<a><![CDATA[]]]", characters, nil, api.ErrChar},
	{"<a><![CDATA[]\xe0", between(0xa0, 0xbf), nil, api.ErrChar},

	// the bounds
	{"<" + long, spaces.and(of("/>")), []rule{{nameLater, api.ErrLimit}}, api.ErrSyntax},
	{"<?" + long, spaces.and(of("?")), []rule{{nameLater, api.ErrLimit}}, api.ErrSyntax},
	{"<a " + long, spaces.and(of("=")), []rule{{nameLater, api.ErrLimit}}, api.ErrSyntax},
	{"<a " + long + "='' " + long[:15], nameLater.and(spaces).and(of("=")).but("p"), []rule{{of("p"), api.ErrLimit}}, api.ErrSyntax},
	{"<a " + long[:15] + "='' " + long[:15], nameLater, []rule{{spaces.and(of("=")), api.ErrTwice}}, api.ErrSyntax},
	{"<a b='" + fewer, characters.but("<"), []rule{{of("<"), api.ErrSyntax}}, api.ErrChar},
	{"<a b='" + full, of("'"), []rule{{of("<"), api.ErrSyntax}, {characters, api.ErrLimit}}, api.ErrChar},
	{"<a b=\"" + full, of("\""), []rule{{of("<"), api.ErrSyntax}, {characters, api.ErrLimit}}, api.ErrChar},
	{"<a b='" + fewer + "&", of("lgaq#"), nil, api.ErrRef},
	{"<a b='" + fewer + "&lt;", of("'"), []rule{{of("<"), api.ErrSyntax}, {characters, api.ErrLimit}}, api.ErrChar},
	{"<a b='" + fewer + "\xe2", tails, nil, api.ErrChar},
	{"<a b='" + fewer + "\xe2\x82\xac", of("'"), []rule{{of("<"), api.ErrSyntax}, {characters, api.ErrLimit}}, api.ErrChar},
	{"<a b='" + fewer + "\r", of("'\n"), []rule{{of("<"), api.ErrSyntax}, {characters, api.ErrLimit}}, api.ErrChar},
	{"<a b='" + fewer + "\n", of("'"), []rule{{of("<"), api.ErrSyntax}, {characters, api.ErrLimit}}, api.ErrChar},
	{"<a b='" + fewer + "\r\n", of("'"), []rule{{of("<"), api.ErrSyntax}, {characters, api.ErrLimit}}, api.ErrChar},
	{"<!--" + full, of("-"), []rule{{characters, api.ErrLimit}}, api.ErrChar},
	{"<!--" + full + "-", of("-"), []rule{{characters, api.ErrLimit}}, api.ErrChar},
	{"<!--" + full + "--", of(">"), nil, api.ErrSyntax},
	{"<!--" + fewer + "-", of("-"), []rule{{characters, api.ErrLimit}}, api.ErrChar},
	{"<!--" + fewer + "\r", of("-\n"), []rule{{characters, api.ErrLimit}}, api.ErrChar},
	{"<!--" + fewer[1:] + "-", characters, nil, api.ErrChar},
	{"<?t " + full, of("?"), []rule{{characters, api.ErrLimit}}, api.ErrChar},
	{"<?t " + full + "?", of(">"), []rule{{characters, api.ErrLimit}}, api.ErrChar},
	{"<?t " + fewer + "?", of(">?"), []rule{{characters, api.ErrLimit}}, api.ErrChar},
	{"<?t " + fewer + "??", of(">"), []rule{{characters, api.ErrLimit}}, api.ErrChar},
	{"<?t " + fewer + "\r", of("?\n"), []rule{{characters, api.ErrLimit}}, api.ErrChar},
	{"<?t " + fewer[1:] + "?", characters, nil, api.ErrChar},
	{"<a b='' c='' d='' e='' ", spaces.and(of("/>")), []rule{{nameFirst, api.ErrLimit}}, api.ErrSyntax},
	{"<a b='' c='' d='' e=''", spaces.and(of("/>")), nil, api.ErrSyntax},
	{"<a><a><a><a><a><a><a><a><", of("!?/"), []rule{{nameFirst, api.ErrLimit}}, api.ErrSyntax},
	{"<a><a><a><a><a><a><a><", nameFirst.and(of("!?/")), nil, api.ErrSyntax},
	{"<a><a><a><a><a><a><a><a/><", nameFirst.and(of("!?/")), nil, api.ErrSyntax},
	{"<a>" + full + "<![CDATA[" + full, characters, nil, api.ErrChar},
	{"<a>" + full + full, characters, nil, api.ErrChar},
}

func (c context) want(b int) api.Errno {
	if c.good[b] {
		return api.OK
	}
	for _, r := range c.rules {
		if r.bytes[b] {
			return r.err
		}
	}
	return c.rest
}

// TestWrongByte: P4, P5 and At: behind each context each of the 256 bytes.
func TestWrongByte(t *testing.T) {
	for _, c := range contexts {
		for b := 0; b < 256; b++ {
			p := parser(t, usual)
			if _, e := p.Feed([]byte(c.text)); e != api.OK {
				t.Errorf("P4: %q is no wrong text, and answers %d", c.text, e)
				break
			}
			_, e := p.Feed([]byte{byte(b)})
			if e != c.want(b) || p.At() != len(c.text)+1 {
				t.Errorf("P5: %q and then the byte %x: %d, At %d; want %d", c.text, b, e, p.At(), c.want(b))
			}
		}
	}
}

// TestNothingReadBehindTheWrongByte: P4, P6: in one piece with the wrong byte, what stands behind it does not matter.
func TestNothingReadBehindTheWrongByte(t *testing.T) {
	for _, c := range contexts {
		for _, b := range []byte{0, '<', '=', 0xff} {
			if c.good[b] {
				continue
			}
			wrong := c.text + string([]byte{b})
			alone := read(t, usual, wrong)
			for _, more := range []string{">", "</a>", "\xff\x00", "<b/>"} {
				if got := read(t, usual, wrong+more); got != alone || got.at != len(wrong) {
					t.Errorf("P4: %q and then %q: %+v, but alone %+v", wrong, more, got, alone)
				}
			}
			if told := read(t, usual, c.text).events; alone.events != told {
				t.Errorf("P6: %q tells %s with the wrong byte, and %s without", wrong, alone.events, told)
			}
		}
	}
}
