package markup_test

import (
	"testing"

	"markup/api"
)

type sample struct {
	text   string
	events string
	feed   api.Errno
	end    api.Errno
	at     int
}

// all: the whole text is read.
const all = -1

// samples: texts with the usual options, and what they are answered.
var samples = []sample{
	// the examples of the document
	{"<a/>", `Start a; End a`, api.OK, api.OK, all},
	{"<a>x&amp;y<![CDATA[<]]></a>", `Start a; Text "x&y<"; End a`, api.OK, api.OK, all},
	{"<!--c--><?t  d ?>\r\n<a></a >", `Comment "c"; Instruction t "d "; Start a; End a`, api.OK, api.OK, all},
	{"<a b='1\"' c = \"x\r\ny&#10;\"/>", `Start a b="1\"" c="x y\n"; End a`, api.OK, api.OK, all},
	{"<a></b>", `Start a`, api.ErrMatch, api.ErrMatch, 6},
	{`<a b="" b="">`, ``, api.ErrTwice, api.ErrTwice, 10},
	{"<a>]]></a>", `Start a; Text "]]"`, api.ErrSyntax, api.ErrSyntax, 6},
	{"<a>&#x110000;", `Start a`, api.ErrRef, api.ErrRef, 12},
	{`<a b="12345678901234567"/>`, ``, api.ErrLimit, api.ErrLimit, 23},
	{"<a>\xed\xa0", `Start a`, api.ErrChar, api.ErrChar, 5},
	{"<a><b", `Start a`, api.OK, api.ErrEarly, all},
	{"<a/><b", `Start a; End a`, api.ErrSyntax, api.ErrSyntax, 6},
	{"<a>x\r\ny]]>", `Start a; Text "x\ny]]"`, api.ErrSyntax, api.ErrSyntax, 10},
	{"<a><![CDATA[]]]x]]></a>", `Start a; Text "]]]x"; End a`, api.OK, api.OK, all},

	// outside of the outermost element
	{"", ``, api.OK, api.ErrEarly, all},
	{"\r\n\t ", ``, api.OK, api.ErrEarly, all},
	{"<!--c-->", `Comment "c"`, api.OK, api.ErrEarly, all},
	{" <a/> ", `Start a; End a`, api.OK, api.OK, all},
	{"\n<!--1--> <?t?>\t<a/>\r<?u v?>\r\n<!--2-->", `Comment "1"; Instruction t; Start a; End a; Instruction u "v"; Comment "2"`, api.OK, api.OK, all},
	{"<a/><!--", `Start a; End a`, api.OK, api.ErrEarly, all},
	{"<a/><", `Start a; End a`, api.OK, api.ErrEarly, all},
	{"\xef\xbb\xbf<a/>", ``, api.ErrSyntax, api.ErrSyntax, 1},
	{"x<a/>", ``, api.ErrSyntax, api.ErrSyntax, 1},
	{"<a/>x", `Start a; End a`, api.ErrSyntax, api.ErrSyntax, 5},
	{"<a/>\x01", `Start a; End a`, api.ErrSyntax, api.ErrSyntax, 5},
	{"<a/><a/>", `Start a; End a`, api.ErrSyntax, api.ErrSyntax, 6},
	{"<a></a></a>", `Start a; End a`, api.ErrSyntax, api.ErrSyntax, 9},
	{"<![CDATA[", ``, api.ErrSyntax, api.ErrSyntax, 3},
	{"<!DOCTYPE a>", ``, api.ErrSyntax, api.ErrSyntax, 3},
	{`<?xml version="1.0"?><a/>`, ``, api.ErrSyntax, api.ErrSyntax, 6},

	// elements and attributes
	{"<a><b><c/></b><b></b></a>", `Start a; Start b; Start c; End c; End b; Start b; End b; End a`, api.OK, api.OK, all},
	{"<a\r\n\t >\r</a\n\r\n\t >", `Start a; Text "\n"; End a`, api.OK, api.OK, all},
	{"<a\nb\r=\t''\r\nc='2' />", `Start a b="" c="2"; End a`, api.OK, api.OK, all},
	{"<A-.:_9 :a=''/>", `Start A-.:_9 :a=""; End A-.:_9`, api.OK, api.OK, all},
	{"<a b='\"' c=\"'\" d='>/=' e=']]>'/>", `Start a b="\"" c="'" d=">/=" e="]]>"; End a`, api.OK, api.OK, all},
	{"<a b='\t\n\r\r\n&#9;&#10;&#13;&#32;'/>", "Start a b=\"    \\t\\n\\r \"; End a", api.OK, api.OK, all},
	{"<a b='&lt;&gt;&amp;&quot;&apos;&#60;'/>", `Start a b="<>&\"'<"; End a`, api.OK, api.OK, all},
	{"<a b='\u00e9\u20ac\U0001f600\x7f'/>", "Start a b=\"é€😀\\x7f\"; End a", api.OK, api.OK, all},
	{"<a b=''><b b=''><a b=''/></b></a>", `Start a b=""; Start b b=""; Start a b=""; End a; End b; End a`, api.OK, api.OK, all},
	{"<a b='' B='' bb=''/>", `Start a b="" B="" bb=""; End a`, api.OK, api.OK, all},
	{"<a b='' c='' b\t=''/>", ``, api.ErrTwice, api.ErrTwice, 15},
	{"<ab></a>", `Start ab`, api.ErrMatch, api.ErrMatch, 8},
	{"<ab></ac>", `Start ab`, api.ErrMatch, api.ErrMatch, 8},
	{"<a></A>", `Start a`, api.ErrMatch, api.ErrMatch, 6},
	{"<a><b></a>", `Start a; Start b`, api.ErrMatch, api.ErrMatch, 9},
	{"<a/ >", ``, api.ErrSyntax, api.ErrSyntax, 4},
	{"<a b=''c=''/>", ``, api.ErrSyntax, api.ErrSyntax, 8},
	{"<a\u00e9/>", ``, api.ErrSyntax, api.ErrSyntax, 3},

	// content
	{"<a>\r\r\n\n&#13;\n&#10;\r</a>", `Start a; Text "\n\n\n\r\n\n\n"; End a`, api.OK, api.OK, all},
	{"<a>\r<![CDATA[\n]]>\r<b/>\n</a>", `Start a; Text "\n\n\n"; Start b; End b; Text "\n"; End a`, api.OK, api.OK, all},
	{"<a>]>]]&gt;]<!---->]>]]<![CDATA[]]>>]]<b/>></a>", `Start a; Text "]>]]>]"; Comment ""; Text "]>]]>]]"; Start b; End b; Text ">"; End a`, api.OK, api.OK, all},
	{"<a>]&#93;>]]&#62;&#93;]>\"'&#93;&#93;></a>", `Start a; Text "]]>]]>]]>\"']]>"; End a`, api.OK, api.OK, all},
	{"<a>x]]]]></a>", `Start a; Text "x]]]]"`, api.ErrSyntax, api.ErrSyntax, 9},
	{"<a>&#x9;&#xA;&#xd;&#32;&#x7f;&#xd7ff;&#xE000;&#xfffd;&#x10000;&#x10fFfF;</a>", "Start a; Text \"\\t\\n\\r \\x7f\\ud7ff\\ue000\ufffd𐀀\\U0010ffff\"; End a", api.OK, api.OK, all},
	{"<a>&#0000000000000000000000000000000000000000000065;</a>", `Start a; Text "A"; End a`, api.OK, api.OK, all},
	{"<a>\t \x7f\u0080\u07ff\u0800\ud7ff\ue000\ufffd\U00010000\U0010ffff</a>", "Start a; Text \"\\t \\x7f\\u0080\u07ff\u0800\\ud7ff\\ue000\ufffd𐀀\\U0010ffff\"; End a", api.OK, api.OK, all},
	{"<a><![CDATA[]]></a>", `Start a; End a`, api.OK, api.OK, all},
	{"<a><![CDATA[&lt;<b>]]]]><![CDATA[>]]></a>", `Start a; Text "&lt;<b>]]>"; End a`, api.OK, api.OK, all},
	{"<a><![CDATA[]\r\n]]\r]>]]></a>", `Start a; Text "]\n]]\n]>"; End a`, api.OK, api.OK, all},
	{"<a><![CDATA[\u20ac]\u20ac]]\u20ac]]></a>", `Start a; Text "€]€]]€"; End a`, api.OK, api.OK, all},
	{"<a><![CDATA[x]]", `Start a; Text "x"`, api.OK, api.ErrEarly, all},
	{"<a><![CDATA[]]\xff", `Start a`, api.ErrChar, api.ErrChar, 15},
	{"<a><![CDATA[]]\xe2\x28", `Start a; Text "]]"`, api.ErrChar, api.ErrChar, 16},
	{"<a><![cDATA[]]>", `Start a`, api.ErrSyntax, api.ErrSyntax, 7},
	{"<a>x&nbsp;", `Start a; Text "x"`, api.ErrRef, api.ErrRef, 6},
	{"<a>&#xfffe;", `Start a`, api.ErrRef, api.ErrRef, 11},
	{"<a>&#99999999999999999999999999999999999999;", `Start a`, api.ErrRef, api.ErrRef, 12},
	{"<a>&am", `Start a`, api.OK, api.ErrEarly, all},

	// comments and instructions
	{"<a><!----><!-- - --><!--->--><!--<&]]>?>--></a>", `Start a; Comment ""; Comment " - "; Comment "->"; Comment "<&]]>?>"; End a`, api.OK, api.OK, all},
	{"<!--\r\n-\r-\n--><a/>", `Comment "\n-\n-\n"; Start a; End a`, api.OK, api.OK, all},
	{"<!--a--b-->", ``, api.ErrSyntax, api.ErrSyntax, 8},
	{"<!--a--->", ``, api.ErrSyntax, api.ErrSyntax, 8},
	{"<!--a-\xc3\xa9\t--><a/>", `Comment "a-é\t"; Start a; End a`, api.OK, api.OK, all},
	{"<a><?t?><?t ?><?t\r\n\t ?><?t ??><?t ? >?></a>", `Start a; Instruction t; Instruction t; Instruction t; Instruction t "?"; Instruction t "? >"; End a`, api.OK, api.OK, all},
	{"<?t \r\nx\r\ny\r ?><a/>", `Instruction t "x\ny\n "; Start a; End a`, api.OK, api.OK, all},
	{"<?xm l?><?xmll?><?:xml?><?x-ml?><a/>", `Instruction xm "l"; Instruction xmll; Instruction :xml; Instruction x-ml; Start a; End a`, api.OK, api.OK, all},
	{"<?t &lt;<!--]]>-->\t\"?><a/>", `Instruction t "&lt;<!--]]>-->\t\""; Start a; End a`, api.OK, api.OK, all},
	{"<?XML?>", ``, api.ErrSyntax, api.ErrSyntax, 6},
	{"<? t?>", ``, api.ErrSyntax, api.ErrSyntax, 3},
	{"<?t>", ``, api.ErrSyntax, api.ErrSyntax, 4},

	// the bounds
	{"<a b='123456789012345\r\n'/>", `Start a b="123456789012345 "; End a`, api.OK, api.OK, all},
	{"<a b='123456789012345\r\r'/>", ``, api.ErrLimit, api.ErrLimit, 23},
	{"<a b='123456789012345\n\r'/>", ``, api.ErrLimit, api.ErrLimit, 23},
	{"<a b='&amp;&amp;&amp;&amp;&amp;&amp;&amp;&amp;&#x0000000000038;2345678'/>", `Start a b="&&&&&&&&82345678"; End a`, api.OK, api.OK, all},
	{"<a b='éééééééééééééééé'/>", `Start a b="éééééééééééééééé"; End a`, api.OK, api.OK, all},
	{"<a b='éééééééééééééééé\xc3", ``, api.ErrLimit, api.ErrLimit, 39},
	{"<!--123456789012345-", ``, api.OK, api.ErrEarly, all},
	{"<!--123456789012345--><a/>", `Comment "123456789012345"; Start a; End a`, api.OK, api.OK, all},
	{"<!--123456789012345-x", ``, api.ErrLimit, api.ErrLimit, 21},
	{"<!--12345678901234-x--><a/>", `Comment "12345678901234-x"; Start a; End a`, api.OK, api.OK, all},
	{"<!--1234567890123456--><a/>", `Comment "1234567890123456"; Start a; End a`, api.OK, api.OK, all},
	{"<!--123456789012345\r\n--><a/>", `Comment "123456789012345\n"; Start a; End a`, api.OK, api.OK, all},
	{"<?t 123456789012345??><a/>", `Instruction t "123456789012345?"; Start a; End a`, api.OK, api.OK, all},
	{"<?t 123456789012345???>", ``, api.ErrLimit, api.ErrLimit, 22},
	{"<?t 123456789012345?x", ``, api.ErrLimit, api.ErrLimit, 21},
	{"<?t 12345678901234?x?><a/>", `Instruction t "12345678901234?x"; Start a; End a`, api.OK, api.OK, all},
	{"<?t                                 12345678901234\r\n?><a/>", `Instruction t "12345678901234\n"; Start a; End a`, api.OK, api.OK, all},
	{"<?abcdefghijklmnop 1234567890123456?><a/>", `Instruction abcdefghijklmnop "1234567890123456"; Start a; End a`, api.OK, api.OK, all},
	{"<a abcdefghijklmno='' abcdefghijklmno", ``, api.OK, api.ErrEarly, all},
	{"<a abcdefghijklmno='' abcdefghijklmnop=''/>", `Start a abcdefghijklmno="" abcdefghijklmnop=""; End a`, api.OK, api.OK, all},
	{"<a abcdefghijklmnop='' abcdefghijklmno=''/>", `Start a abcdefghijklmnop="" abcdefghijklmno=""; End a`, api.OK, api.OK, all},
	{"<a abcdefghijklmnop='' abcdefghijklmnop=''/>", ``, api.ErrLimit, api.ErrLimit, 39},
	{"<a b='' c='' d='' e='' \r\n/>", `Start a b="" c="" d="" e=""; End a`, api.OK, api.OK, all},
	{"<a b='' c='' d='' e='' b=''/>", ``, api.ErrLimit, api.ErrLimit, 24},
	{"<a><a><a><a><a><a><a><a><?t?><!--c--><![CDATA[x]]></a><a/></a></a></a></a></a></a></a>",
		`Start a; Start a; Start a; Start a; Start a; Start a; Start a; Start a; Instruction t; Comment "c"; Text "x"; End a; Start a; End a; End a; End a; End a; End a; End a; End a; End a`, api.OK, api.OK, all},
	{"<a><a><a><a><a><a><a><a><a/>", `Start a; Start a; Start a; Start a; Start a; Start a; Start a; Start a`, api.ErrLimit, api.ErrLimit, 26},
	{"<a>123456789012345678901234567890<![CDATA[123456789012345678901234567890]]></a>", `Start a; Text "123456789012345678901234567890123456789012345678901234567890"; End a`, api.OK, api.OK, all},
}

func (s sample) want() outcome {
	at := s.at
	if at == all {
		at = len(s.text)
	}
	return outcome{s.events, s.feed, s.end, at}
}

func TestSamples(t *testing.T) {
	for _, s := range everySample() {
		if got := read(t, s.o, s.text); got != s.want() {
			t.Errorf("P4 to P7, P9: %q:\n got %+v\nwant %+v", s.text, got, s.want())
		}
	}
}

// TestCuts: P8: each sample cut in two and in three at all places, and byte by byte with empty pieces among them.
func TestCuts(t *testing.T) {
	for _, s := range everySample() {
		var bytes []string
		for i := 0; i < len(s.text); i++ {
			bytes = append(bytes, "", s.text[i:i+1])
		}
		cut(t, s, append(bytes, "")...)
		for i := 0; i <= len(s.text); i++ {
			for k := i; k <= len(s.text); k++ {
				cut(t, s, s.text[:i], s.text[i:k], s.text[k:])
			}
		}
	}
}

func cut(t *testing.T, s given, pieces ...string) {
	t.Helper()
	if got := read(t, s.o, pieces...); got != s.want() {
		t.Fatalf("P8: %q:\n got %+v\nwant %+v", pieces, got, s.want())
	}
}
