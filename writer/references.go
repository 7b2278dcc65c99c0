package writer

// referenceInText gives the reference that is written for a byte of text, and nothing if the byte is written as it stands.
func referenceInText(b byte) string {
	switch b {
	case '<':
		return "&lt;"
	case '>':
		return "&gt;"
	case '&':
		return "&amp;"
	case '\r':
		return "&#13;"
	}
	return ""
}

// referenceInValue knows some bytes more: a quote would end the value, and the others would be told as spaces.
func referenceInValue(b byte) string {
	switch b {
	case '"':
		return "&quot;"
	case '\t':
		return "&#9;"
	case '\n':
		return "&#10;"
	}
	return referenceInText(b)
}
