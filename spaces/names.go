// Package spaces knows the names of namespaces: prefixes, what declares them, and what they are bound to.
package spaces

import "markup/chars"

// HasColon tells whether a name has a ":" in it.
func HasColon(name string) bool {
	return colon(name) >= 0
}

// colon tells where the first ":" of a name stands, and -1 if there is none.
func colon(name string) int {
	for i := 0; i < len(name); i++ {
		if name[i] == ':' {
			return i
		}
	}
	return -1
}

func isQualified(name string) bool {
	if !HasColon(name) {
		return true
	}
	local := localOf(name)
	return prefixOf(name) != "" && local != "" && chars.BeginsName(local[0]) && !HasColon(local)
}

func prefixOf(name string) string {
	at := colon(name)
	if at < 0 {
		return ""
	}
	return name[:at]
}

func localOf(name string) string {
	return name[colon(name)+1:]
}

func isDeclaration(name string) bool {
	return name == "xmlns" || prefixOf(name) == "xmlns"
}

// declared gives the prefix that a declaration of this name declares.
func declared(name string) string {
	if name == "xmlns" {
		return ""
	}
	return localOf(name)
}

// Declaration gives the name of the attribute that declares a prefix.
func Declaration(prefix string) string {
	if prefix == "" {
		return "xmlns"
	}
	return "xmlns:" + prefix
}
