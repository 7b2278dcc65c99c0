package reader

// The states: where the next byte stands. A character or a reference that is begun stands in one of them too.
const (
	outside   = 0 // outside the outermost element
	inContent = 1
	inSection = 2

	behindLess    = 3 // behind "<"
	behindBang    = 4 // behind "<!"
	behindDash    = 5 // behind "<!-"
	inSectionMark = 6 // behind "<!["

	inComment = 7

	inInstructionName     = 8
	behindBareInstruction = 9  // behind the "?" right behind the name
	behindInstructionName = 10 // behind a space behind the name
	inInstruction         = 11

	inStartName      = 12
	behindStartSpace = 13 // behind a space that an attribute can follow
	inAttrName       = 14
	behindAttrName   = 15 // behind a space behind the name
	behindEquals     = 16
	inValue          = 17
	behindValue      = 18
	behindSlash      = 19

	inEndName     = 20
	behindEndName = 21 // behind a space behind the name
)

func isStartTag(state int) bool {
	return state >= inStartName && state <= behindSlash
}

func isEndTag(state int) bool {
	return state == inEndName || state == behindEndName
}
