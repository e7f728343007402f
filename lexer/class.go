package lexer

import (
	"iter"
	"strings"
)

// The classes of bytes.
const (
	other = iota
	blank
	sign
	digit
	underscore
	letter
	classes
)

// members has the bytes of each class; all others are of the class other.
var members = [classes]string{
	blank:      " " + lineFeed,
	sign:       Signs,
	digit:      "0123456789",
	underscore: "_",
	letter:     "ABCDEFGHIJKLMNOPQRSTUVWXYZabcdefghijklmnopqrstuvwxyz",
}

// goesOn says for the class of the first byte of a run with which classes the run goes on.
var goesOn = [classes][classes]bool{
	blank:  {blank: true},
	digit:  {digit: true},
	letter: {digit: true, underscore: true, letter: true},
}

// classOf returns the class of a byte.
func classOf(b byte) int {
	for class := range classes {
		if strings.IndexByte(members[class], b) >= 0 {
			return class
		}
	}
	return other
}

// runLength returns the length of the longest run with which a text that is not empty begins.
func runLength(text string) int {
	class := classOf(text[0])
	n := 1
	for n < len(text) && goesOn[class][classOf(text[n])] {
		n++
	}
	return n
}

// runs yields the offset and the text of each run, from the left to the right.
func runs(text string) iter.Seq2[int, string] {
	return func(yield func(at int, run string) bool) {
		for at := 0; at < len(text); {
			end := at + runLength(text[at:])
			if !yield(at, text[at:end]) {
				return
			}
			at = end
		}
	}
}

// isRun reports whether a text is a single run that begins with a byte of a class.
func isRun(s string, class int) bool {
	return s != "" && classOf(s[0]) == class && runLength(s) == len(s)
}
