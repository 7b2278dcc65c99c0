package markup_test

import (
	"bytes"
	"fmt"
	"math/rand"
	"slices"
	"strings"
	"testing"

	"markup/api"
	"markup/markup"
)

// TestWriteEachByte: P13: each byte at each place of an event, alone and among others.
func TestWriteEachByte(t *testing.T) {
	t.Parallel()
	taken := 0
	for _, o := range []api.Options{plain, named} {
		for b := 0; b < 256; b++ {
			for _, form := range []string{"%s", "a%s", "%sa", "a%sa", "xml%s", "%s%[1]s", "\xc3%s", "%s\xa9", "-%s", "?%s", "%s>", "%s-", "]]%s", "&lt%s", "&#13%s"} {
				for _, list := range places(fmt.Sprintf(form, string([]byte{byte(b)}))) {
					taken += number(mindWrite(t, o, list))
				}
			}
		}
	}
	if taken < 10000 {
		t.Errorf("only %d lists were written", taken)
	}
}

// places lays a string at each place where one can stand.
func places(s string) [][]api.Event {
	return [][]api.Event{
		inside(text(s)),
		inside(comment(s)),
		inside(instruction("t", s)),
		inside(instruction(s, "")),
		inside(instruction(s, "x")),
		listOf(start("a", attr("b", s)), end("a")),
		listOf(start("a", attr(s, "")), end("a")),
		listOf(start("a", attr("a", ""), attr(s, "")), end("a")),
		listOf(start(s), end(s)),
		listOf(start(s), end("a")),
		listOf(start("a"), end(s)),
		listOf(bind("p", s), in(s, start("p:a")), in(s, end("p:a")), unbind("p")),
		listOf(bind("", s), in(s, start("a")), in(s, end("a")), unbind("")),
		listOf(bind(s, "u"), start("a"), end("a"), unbind(s)),
		listOf(bind(s, "u"), in("u", start(s+":a", attrIn("u", s+":b", ""))), in("u", end(s+":a")), unbind(s)),
		listOf(bind("p", "u"), start("a"), end("a"), unbind(s)),
		listOf(bind("p", "u"), in("u", start("p:"+s)), in("u", end("p:"+s)), unbind("p")),
		listOf(bind("p", "u"), start("a", attrIn("u", "p:"+s, "")), end("a"), unbind("p")),
		inside(in(s, text("x"))),
		listOf(in(s, start("a")), in(s, end("a"))),
		listOf(start("a", attrIn(s, "b", "")), end("a")),
	}
}

// TestWriteEachCharacter: P13: each code point, as if all were characters, in Text and where there are bounds.
func TestWriteEachCharacter(t *testing.T) {
	t.Parallel()
	run := "x"
	for code := 0; code <= 0x110100; code++ {
		s := encoded(code)
		if !isCharacters(s) {
			eachPlace(t, s, false)
			continue
		}
		run += s
		if code%1000 == 0 || code == 0x10ffff {
			eachPlace(t, run, true)
			run = "x"
		}
	}
}

// encoded gives the bytes of a code point in the shortest form, whether or not it is one of a character.
func encoded(code int) string {
	tail := func(shift int) byte { return byte(0x80 | code>>shift&0x3f) }
	switch {
	case code < 0x80:
		return string([]byte{byte(code)})
	case code < 0x800:
		return string([]byte{byte(0xc0 | code>>6), tail(0)})
	case code < 0x10000:
		return string([]byte{byte(0xe0 | code>>12), tail(6), tail(0)})
	}
	return string([]byte{byte(0xf0 | code>>18), tail(12), tail(6), tail(0)})
}

func eachPlace(t *testing.T, s string, want bool) {
	t.Helper()
	o := api.Options{Depth: 1, Attrs: 1, Token: api.MaxToken}
	bare := strings.ReplaceAll(s, "\r", "")
	mustWrite(t, o, inside(text(s)), want)
	mustWrite(t, o, listOf(start("a", attr("b", s)), end("a")), want)
	mustWrite(t, o, inside(comment(bare)), want)
	mustWrite(t, o, inside(instruction("t", bare)), want)
}

// mustWrite: there is a text that gives the list, or there is none.
func mustWrite(t *testing.T, o api.Options, list []api.Event, want bool) {
	t.Helper()
	if got := mindWrite(t, o, list); got != want {
		t.Fatalf("P13: %+v: a text gives %#v: %v", o, list, got)
	}
}

// TestWriteBounds: P13: the least and the greatest bounds, just kept and just not.
func TestWriteBounds(t *testing.T) {
	for _, names := range []bool{false, true} {
		for more := 0; more < 2; more++ {
			for _, n := range []int{1, 2, 63, 64} {
				mustWrite(t, api.Options{Depth: n, Token: 8, Names: names}, nested(n+more), more == 0)
			}
			for _, n := range []int{0, 1, 31, 32} {
				mustWrite(t, api.Options{Depth: 1, Attrs: n, Token: 8, Names: names}, tagged(0, n+more), more == 0)
			}
			for _, n := range []int{8, 9, 1023, 1024} {
				for _, list := range longTokens(many("n", n+more)) {
					mustWrite(t, api.Options{Depth: 1, Attrs: 1, Token: n, Names: names}, list, more == 0)
				}
			}
		}
	}
}

// TestWriteBoundsOfBinds: P13: a Bind counts as an attribute, and its name is that of the declaration.
func TestWriteBoundsOfBinds(t *testing.T) {
	for more := 0; more < 2; more++ {
		for _, n := range []int{1, 31, 32} {
			for binds := 1; binds <= n+more; binds++ {
				mustWrite(t, api.Options{Depth: 1, Attrs: n, Token: 8, Names: true}, tagged(binds, n+more-binds), more == 0)
			}
		}
		for _, n := range []int{8, 9, 1023, 1024} {
			o := api.Options{Depth: 1, Attrs: 1, Token: n, Names: true}
			prefix, value := many("p", n+more-len("xmlns:")), many("\n", n+more)
			mustWrite(t, o, listOf(bind(prefix, "u"), start("a"), end("a"), unbind(prefix)), more == 0)
			mustWrite(t, o, listOf(bind("p", value), start("a"), end("a"), unbind("p")), more == 0)
			mustWrite(t, o, listOf(bind("", value), in(value, start("a")), in(value, end("a")), unbind("")), more == 0)
		}
	}
}

func nested(depth int) []api.Event {
	return append(slices.Repeat(listOf(start("a")), depth), slices.Repeat(listOf(end("a")), depth)...)
}

// tagged is an element with so many Binds and attributes.
func tagged(binds, attrs int) []api.Event {
	e := start("a")
	for i := range attrs {
		e.Attrs = append(e.Attrs, attr(fmt.Sprintf("b%d", i), ""))
	}
	list := listOf(e, end("a"))
	for i := range binds {
		prefix := fmt.Sprintf("%c%d", 'p'+i/10, i%10)
		list = append(append(listOf(bind(prefix, "u")), list...), unbind(prefix))
	}
	return list
}

// longTokens lays as many characters as a long name has wherever there is a bound for them.
func longTokens(s string) [][]api.Event {
	return [][]api.Event{
		listOf(start(s), end(s)),
		listOf(start("a", attr(s, "")), end("a")),
		listOf(start("a", attr("b", s)), end("a")),
		listOf(start("a", attr("b", strings.ReplaceAll(s, "n", "\""))), end("a")),
		inside(comment(s)),
		inside(comment(strings.ReplaceAll(s, "n", "\n"))),
		inside(instruction(s, "x")),
		inside(instruction("t", strings.ReplaceAll(s, "n", "€"))),
		inside(instruction("t", strings.ReplaceAll(s, "n", "?"))),
	}
}

// TestWriteLongText: P13: text has no bound.
func TestWriteLongText(t *testing.T) {
	mustWrite(t, api.Options{Depth: 1, Token: 8}, inside(text(many("x€<>&\r\n]", 20000))), true)
}

// TestWriteSamples: P13: what the samples tell, cut anywhere.
func TestWriteSamples(t *testing.T) {
	t.Parallel()
	for _, s := range everySample() {
		if s.end != api.OK {
			continue
		}
		for i := 0; i <= len(s.text); i++ {
			mustWrite(t, s.o, told(t, s.o, s.text[:i], s.text[i:]), true)
		}
	}
}

// told gives the joined events of a document.
func told(t *testing.T, o api.Options, pieces ...string) []api.Event {
	t.Helper()
	list, e := toldAndEnded(t, o, pieces...)
	if e != api.OK {
		t.Fatalf("P7: %+v: %q answers %d", o, pieces, e)
	}
	return list
}

func toldAndEnded(t *testing.T, o api.Options, pieces ...string) ([]api.Event, api.Errno) {
	t.Helper()
	p := parser(t, o)
	var list []api.Event
	for _, piece := range pieces {
		more, _ := p.Feed([]byte(piece))
		list = append(list, more...)
	}
	return joined(list), p.Close()
}

// TestWriteDocuments: P13: what documents at random tell, with bounds that they just keep, and that they just do not.
func TestWriteDocuments(t *testing.T) {
	t.Parallel()
	count := 0
	for seed := int64(0); seed < 6000; seed++ {
		m := maker{r: rand.New(rand.NewSource(seed))}
		if seed%2 == 0 {
			m.spacedElement(3)
		} else {
			m.document()
		}
		for _, names := range []bool{false, true} {
			count += number(mindDocument(t, m.r, m.String(), names))
		}
	}
	if count < 5000 {
		t.Errorf("only %d of the texts were documents", count)
	}
}

// mindDocument tells whether the text is a document.
func mindDocument(t *testing.T, r *rand.Rand, text string, names bool) bool {
	t.Helper()
	m, isDocument := measure(text)
	if !isDocument {
		return false
	}
	o := api.Options{Depth: m.depth, Attrs: m.attrs, Token: max(m.token, api.MinToken), Names: names}
	list, e := toldAndEnded(t, o, pieces(r, text)...)
	if names && e == api.ErrSpace {
		return false
	}
	if e != api.OK {
		t.Fatalf("P7: %+v: %q answers %d", o, text, e)
	}
	mustWrite(t, o, list, true)
	lower := []api.Options{o, o, o}
	lower[0].Depth--
	lower[1].Attrs--
	lower[2].Token--
	for _, o := range lower {
		if p, e := markup.New(o); p != nil && e == api.OK {
			mustWrite(t, o, list, false)
		}
	}
	o.Names = !names
	mindWrite(t, o, list)
	return true
}

// changer changes lists at random.
type changer struct{ r *rand.Rand }

func (c changer) word() string {
	return []string{"", "", "a", "b", "p", "q", "p:a", "p:b", "q:b", "xml", "xmlns", "xmlns:p", "xml:a", "u", "v", "t", " ", "x", "x ", " x", "-", "--", "?", "?>", "]]>", "<", "&", "\r", "\n", "\t", "\"", ":", "9",
		"é", "\xff", "\x00", "xxxxxxxx", "xxxxxxxxx", xmlSpace, declSpace}[c.r.Intn(40)]
}

func (c changer) attr() api.Attr {
	return api.Attr{Name: c.word(), Space: []string{"", "", "u", "v", c.word()}[c.r.Intn(5)], Value: c.word()}
}

func (c changer) event() api.Event {
	e := api.Event{Kind: c.r.Intn(9)}
	if c.r.Intn(4) > 0 {
		e.Name = c.word()
	}
	if c.r.Intn(2) > 0 {
		e.Value = c.word()
	}
	if c.r.Intn(6) == 0 {
		e.Space = c.word()
	}
	for range c.r.Intn(2) * c.r.Intn(2) * c.r.Intn(4) {
		e.Attrs = append(e.Attrs, c.attr())
	}
	return e
}

// changed gives a list with one thing changed.
func (c changer) changed(list []api.Event) []api.Event {
	list = slices.Clone(list)
	i := c.r.Intn(len(list) + 1)
	if c.r.Intn(8) == 0 || i == len(list) {
		return slices.Insert(list, i, c.event())
	}
	switch c.r.Intn(6) {
	case 0:
		return slices.Delete(list, i, i+1)
	case 1:
		return slices.Insert(list, i, list[c.r.Intn(len(list))])
	case 2:
		k := c.r.Intn(len(list))
		list[i], list[k] = list[k], list[i]
	case 3:
		if i+1 < len(list) {
			list[i], list[i+1] = list[i+1], list[i]
		}
	case 4:
		list[i].Attrs = c.changedAttrs(list[i].Attrs)
	case 5:
		c.changeField(&list[i])
	}
	return list
}

func (c changer) changeField(e *api.Event) {
	switch c.r.Intn(4) {
	case 0:
		e.Kind = c.r.Intn(9)
	case 1:
		e.Name = c.word()
	case 2:
		e.Space = c.word()
	case 3:
		e.Value = c.word()
	}
}

func (c changer) changedAttrs(list []api.Attr) []api.Attr {
	list = slices.Clone(list)
	i := c.r.Intn(len(list) + 1)
	if i == len(list) {
		return append(list, c.attr())
	}
	switch c.r.Intn(6) {
	case 0:
		return slices.Delete(list, i, i+1)
	case 1:
		return append(list, list[i])
	case 2:
		k := c.r.Intn(len(list))
		list[i], list[k] = list[k], list[i]
	case 3:
		list[i].Name = c.word()
	case 4:
		list[i].Space = c.word()
	case 5:
		list[i].Value = c.word()
	}
	return list
}

// TestWriteChangedLists: P13: what documents tell, with a few things changed: by the rules over lists there is a text or not.
func TestWriteChangedLists(t *testing.T) {
	t.Parallel()
	counts := map[bool]int{}
	for seed := int64(0); seed < 8000; seed++ {
		m := maker{r: rand.New(rand.NewSource(seed))}
		if seed%2 == 0 {
			m.spacedElement(3)
		} else {
			m.document()
		}
		c := changer{m.r}
		o := api.Options{Depth: 2 + m.r.Intn(5), Attrs: 2 + m.r.Intn(6), Token: 8 + m.r.Intn(60), Names: m.r.Intn(2) == 0}
		list, _ := toldAndEnded(t, o, m.String())
		for range 10 {
			more := list
			for range 1 + m.r.Intn(3) {
				more = c.changed(more)
			}
			counts[mindWrite(t, o, more)]++
		}
	}
	if counts[true] < 4000 || counts[false] < 20000 {
		t.Errorf("how many lists were given by a text: %v", counts)
	}
}

// TestWriteSmallLists: P13: all lists of a few events.
func TestWriteSmallLists(t *testing.T) {
	t.Parallel()
	mindAll(t, api.Options{Depth: 2, Attrs: 1, Token: 8}, 6, listOf(start("a"), end("a"), start("b", attr("a", "")), end("b"), text("x"), comment("c"), instruction("t", "")))
	mindAll(t, api.Options{Depth: 2, Attrs: 2, Token: 8, Names: true}, 6, listOf(start("a"), end("a"), bind("p", "u"), unbind("p"), bind("", "u"), unbind(""), in("u", start("a")), in("u", end("a"))))
	mindAll(t, api.Options{Depth: 2, Attrs: 2, Token: 8, Names: true}, 6, listOf(in("u", start("p:a")), in("u", end("p:a")), bind("p", "u"), bind("p", "v"), unbind("p"), start("b", attrIn("v", "p:b", "")), end("b"), text("x")))
}

// mindAll minds all lists of so many events or fewer.
func mindAll(t *testing.T, o api.Options, most int, events []api.Event) {
	t.Helper()
	var list []api.Event
	count := 0
	var longer func()
	longer = func() {
		count += number(mindWrite(t, o, list))
		if len(list) == most {
			return
		}
		for _, e := range events {
			list = append(list, e)
			longer()
			list = list[:len(list)-1]
		}
	}
	longer()
	if count < 5 {
		t.Errorf("only %d lists were given by a text", count)
	}
}

// TestWriteOwn: P2: nothing handed in is written into, nor its spare room; what comes out is fresh, and the caller's.
func TestWriteOwn(t *testing.T) {
	for _, o := range []api.Options{plain, named} {
		for _, list := range [][]api.Event{
			listOf(start("a", attr("b", "<"), attr("c", "1")), text("x>"), start("d", attr("b", "2")), end("d"), end("a"), comment("c")),
			listOf(bind("p", "u"), bind("", "v"), in("v", start("a", attrIn("u", "p:b", "1"))), in("v", end("a")), unbind(""), unbind("p")),
			listOf(start("a", attr("b", "<"), attr("b", "<")), end("a")),
			nil,
		} {
			mindOwn(t, o, list)
		}
	}
}

func mindOwn(t *testing.T, o api.Options, list []api.Event) {
	t.Helper()
	spare := api.Event{Kind: 99, Name: "spare", Space: "spare", Value: "spare"}
	given := append(slices.Clone(list), spare, spare, spare)
	for i := range given {
		given[i].Attrs = append(slices.Clone(given[i].Attrs), attr("spare", "room"))
		given[i].Attrs = given[i].Attrs[:len(given[i].Attrs)-1]
	}
	before := shown(given)
	first, e := markup.Write(o, given[:len(list)])
	kept := string(first)
	second, f := markup.Write(o, given[:len(list)])
	if shown(given) != before {
		t.Fatalf("P2: Write wrote into what it was handed:\n%s\n%s", before, shown(given))
	}
	for i := range given {
		given[i] = spare
	}
	if e != f || string(first) != kept || string(second) != kept {
		t.Fatalf("P2: Write answers %q, %d, and then %q, %d", kept, e, second, f)
	}
	spoilBytes(first)
	if string(second) != kept {
		t.Fatalf("P2: two answers of Write share room: %q", second)
	}
	third, g := markup.Write(o, list)
	if string(third) != kept || g != e || !isSpoiltBytes(first) {
		t.Fatalf("P2: a later Write answers %q, %d, and the first answer is %q", third, g, first)
	}
}

// shown writes a list down with its spare room and that of the lists in it.
func shown(list []api.Event) string {
	out := ""
	for _, e := range list[:cap(list)] {
		out += fmt.Sprintf("%#v, and with its spare room %#v\n", e, e.Attrs[:cap(e.Attrs)])
	}
	return out
}

func spoilBytes(b []byte) {
	for i := range b[:cap(b)] {
		b[:cap(b)][i] = '!'
	}
}

func isSpoiltBytes(b []byte) bool {
	return len(bytes.Trim(b[:cap(b)], "!")) == 0
}

// TestWriteAnything: P1: lists of events at random, and very long ones.
func TestWriteAnything(t *testing.T) {
	t.Parallel()
	r := rand.New(rand.NewSource(1))
	c := changer{r}
	for range 30000 {
		var list []api.Event
		for range r.Intn(8) {
			list = append(list, c.event())
		}
		if r.Intn(2) == 0 {
			list = inside(list...)
		}
		o := api.Options{Depth: 1 + r.Intn(64), Attrs: r.Intn(33), Token: 8 + r.Intn(1017), Names: r.Intn(2) == 0}
		mindWrite(t, o, list)
	}
	const very = 100000
	manyAttrs := slices.Repeat([]api.Attr{attr("b", "<")}, very)
	for _, o := range []api.Options{plain, named} {
		for _, list := range [][]api.Event{
			slices.Repeat(listOf(start("a")), very), slices.Repeat(listOf(end("a")), very), slices.Repeat(listOf(bind("p", "u")), very), slices.Repeat(listOf(unbind("p")), very),
			slices.Repeat(listOf(text("x")), very), slices.Repeat(listOf(api.Event{Kind: 8}), very), nested(very), inside(slices.Repeat(listOf(text("x")), very)...),
			append(slices.Repeat(listOf(bind("p", "u")), very), inside()...), append(slices.Repeat(listOf(bind("", "")), very), start("a"), end("a")),
			listOf(start("a", manyAttrs...), end("a")), listOf(start("a"), api.Event{Kind: api.End, Name: "a", Attrs: manyAttrs}),
			listOf(start(many("a", very)), end(many("a", very))), inside(comment(many("-", very))), inside(instruction(many("t", very), many("?", very))), inside(text(many("\xff", very))),
		} {
			mustWrite(t, o, list, false)
		}
		mustWrite(t, o, inside(slices.Repeat(listOf(text("<"), start("a"), comment("c"), end("a")), very/10)...), true)
	}
}
