// Package runes is layer 1: which texts are UTF-8, and which lines and columns their bytes have.
package runes

import (
	"strings"
	"unicode/utf8"

	"scarf/api"
)

// Valid tells whether a text is UTF-8: its length, or where the first rune begins that is none.
func Valid(s string) (int, bool) {
	for at, c := range s {
		if c != utf8.RuneError {
			continue
		}
		// U+FFFD may stand there itself, with three bytes.
		if _, n := Next(s, at); n == 1 {
			return at, false
		}
	}
	return len(s), true
}

// Next is the rune at a byte, and how many bytes it has.
func Next(s string, at int) (rune, int) {
	if at < 0 || at >= len(s) {
		return 0, 0
	}
	return utf8.DecodeRuneInString(s[at:])
}

// Lines are the spans of a text's lines, each with its line feed.
func Lines(s string) []api.Span {
	var all []api.Span
	from := 0
	for at, c := range s {
		if c == '\n' {
			all = append(all, api.Span{From: from, To: at + 1})
			from = at + 1
		}
	}
	return append(all, api.Span{From: from, To: len(s)})
}

// Place is the line and the column of a byte.
func Place(s string, at int) (int, int, bool) {
	if at < 0 || at > len(s) {
		return 0, 0, false
	}
	line := 1 + strings.Count(s[:at], "\n")
	from := 1 + strings.LastIndexByte(s[:at], '\n')
	column := 1
	for i := range s[from:] {
		_, n := Next(s, from+i)
		if from+i+n > at {
			break
		}
		column++
	}
	return line, column, true
}

// At is the byte of a line and a column.
func At(s string, line, column int) (int, bool) {
	lines := Lines(s)
	if line < 1 || line > len(lines) || column < 1 {
		return 0, false
	}
	span := lines[line-1]
	k := 1
	for i := range s[span.From:span.To] {
		if k == column {
			return span.From + i, true
		}
		k++
	}
	if k == column {
		return span.To, true
	}
	return 0, false
}
