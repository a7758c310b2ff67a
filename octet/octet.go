// Package octet is layer 1: see shared/doc/01-octet.md.
package octet

import (
	"strings"

	"icehouse/api"
)

const (
	blanks = " \t"
	// What a token may have beside letters and digits.
	marks = "!#$%&'*+-.^_`|~"
)

// Token: is it one?
func Token(s string) bool {
	return s != "" && every(s, inToken)
}

// Value: is it one?
func Value(s string) bool {
	return every(s, inValue) && strings.Trim(s, blanks) == s
}

// Trim is a text without blanks at its ends.
func Trim(s string) string {
	// The piece alone would hold on to all of the text.
	return strings.Clone(strings.Trim(s, blanks))
}

// Lower is a text with small letters.
func Lower(s string) string {
	// Not strings.ToLower: octets that are no UTF-8 stay as they are.
	b := []byte(s)
	for i := range len(b) {
		if 'A' <= b[i] && b[i] <= 'Z' {
			b[i] += 'a' - 'A'
		}
	}
	return string(b)
}

// Quote is a text between quotation marks. ErrForm.
func Quote(s string) (string, api.Errno) {
	if !every(s, inValue) {
		return "", api.ErrForm
	}
	b := []byte{'"'}
	for i := range len(s) {
		if s[i] == '"' || s[i] == '\\' {
			b = append(b, '\\')
		}
		b = append(b, s[i])
	}
	return string(append(b, '"')), api.OK
}

// Unquote is what a quoted text says, and how long it is. ErrForm.
func Unquote(s string) (string, int, api.Errno) {
	if s == "" || s[0] != '"' {
		return "", 0, api.ErrForm
	}
	var b []byte
	escaped := false
	for i := range len(s) - 1 {
		c := s[i+1]
		switch {
		case !inValue(c):
			return "", 0, api.ErrForm
		case escaped:
			b = append(b, c)
			escaped = false
		case c == '\\':
			escaped = true
		case c == '"':
			return string(b), i + 2, api.OK
		default:
			b = append(b, c)
		}
	}
	return "", 0, api.ErrForm
}

// Split are texts' pieces.
func Split(ss ...string) []string {
	var pieces []string
	add := func(s string) {
		if s = Trim(s); s != "" {
			pieces = append(pieces, s)
		}
	}
	for _, s := range ss {
		from, outside := 0, outsideMarks()
		for i := range len(s) {
			if outside(s[i]) && s[i] == ',' {
				add(s[from:i])
				from = i + 1
			}
		}
		add(s[from:])
	}
	return pieces
}

// outsideMarks is asked of a text's octets, one behind the other: does this one stand outside of quotation marks?
func outsideMarks() func(byte) bool {
	quoted, escaped := false, false
	return func(c byte) bool {
		switch {
		case escaped:
			escaped = false
		case quoted && c == '\\':
			escaped = true
		case c == '"':
			quoted = !quoted
		}
		return !quoted
	}
}

func every(s string, test func(byte) bool) bool {
	for i := range len(s) {
		if !test(s[i]) {
			return false
		}
	}
	return true
}

func inToken(c byte) bool {
	return 'a' <= c && c <= 'z' || 'A' <= c && c <= 'Z' || '0' <= c && c <= '9' || strings.IndexByte(marks, c) >= 0
}

func inValue(c byte) bool {
	return c == '\t' || c >= 0x20 && c != 0x7f
}
