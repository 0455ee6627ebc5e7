package shell

import (
	"strconv"
	"strings"
)

const lineEnd = "\n"

// wordsOf: the words of a line.
func wordsOf(line string) []string { return strings.FieldsFunc(line, isBlank) }

func isBlank(r rune) bool { return r == ' ' || r == '\t' || r == '\r' }

// saysNothing: has the line no word, or is it a remark?
func saysNothing(words []string) bool {
	return len(words) == 0 || strings.HasPrefix(words[0], "#")
}

// readNumbers: are the words just as many numbers as are wanted? Then these get them.
func readNumbers(words []string, wanted ...*int) bool {
	if len(words) != len(wanted) {
		return false
	}
	for i, word := range words {
		n, ok := numberOf(word)
		if !ok {
			return false
		}
		*wanted[i] = n
	}
	return true
}

// numberOf: the word's number. There is one way to write it: a sign + or a 0 too many, which strconv takes, isn't in it.
func numberOf(word string) (int, bool) {
	n, err := strconv.Atoi(word)
	return n, err == nil && strconv.Itoa(n) == word
}
