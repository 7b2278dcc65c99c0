package reader

import "markup/chars"

// Rest gives bytes by which the text that was read becomes a document. They add no character to a token and no attribute
// to a tag, but where one is begun that must go on: so they keep the bounds that the text keeps.
func (r *Reader) Rest() []byte {
	rest := r.part.Rest()
	rest = append(rest, r.ref.Rest()...)
	rest = append(rest, r.restOfMark()...)
	last := len(r.open) - 1
	if isEndTag(r.state) {
		last--
	}
	for i := last; i >= 0; i-- {
		rest = append(rest, "</"+r.open[i]+">"...)
	}
	if len(r.open) == 0 && !r.over && !isStartTag(r.state) {
		rest = append(rest, "<a/>"...)
	}
	return rest
}

// restOfMark gives what ends the tag, comment, instruction or section in which the text stands.
func (r *Reader) restOfMark() string {
	switch r.state {
	case outside, inContent:
		return ""
	case behindLess:
		// A comment can stand everywhere, but an element could be one too many, or lie too deep.
		return "!---->"
	case behindBang:
		return "---->"
	case behindDash:
		return "--->"
	case inComment:
		return behind("-->", len(r.held))
	case inSectionMark:
		return behind(sectionMark, r.matched) + "]]>"
	case inSection:
		return behind("]]>", len(r.held))
	case inEndName:
		return behind(r.innermost(), r.matched) + ">"
	case behindEndName:
		return ">"
	}
	if isStartTag(r.state) {
		return r.restOfStart()
	}
	return r.restOfInstruction()
}

// behind gives what is still missing of a word of which some bytes have come.
func behind(word string, come int) string {
	if come < 0 || come > len(word) {
		return ""
	}
	return word[come:]
}

func (r *Reader) restOfInstruction() string {
	switch r.state {
	case inInstructionName:
		if r.count == 0 || isXML(r.token) {
			return "a?>"
		}
	case behindBareInstruction:
		return ">"
	}
	return behind("?>", len(r.held))
}

func (r *Reader) restOfStart() string {
	switch r.state {
	case inAttrName:
		return r.restOfAttrName() + "=''/>"
	case behindAttrName:
		return "=''/>"
	case behindEquals:
		return "''/>"
	case inValue:
		return string([]byte{r.quote}) + "/>"
	case behindSlash:
		return ">"
	}
	return "/>"
}

// restOfAttrName gives one letter more to a name that stands in the tag already. There is room for it, and a free letter:
// a name that can get no longer was refused, and a tag has fewer attributes than there are letters.
func (r *Reader) restOfAttrName() string {
	name := string(r.token)
	if !r.hasAttr(name) {
		return ""
	}
	for b := byte('A'); b <= 'z'; b++ {
		letter := string([]byte{b})
		if chars.InName(b) && !r.hasAttr(name+letter) {
			return letter
		}
	}
	return ""
}
