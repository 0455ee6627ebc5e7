package shell

import (
	"strconv"

	"larch/api"
	"larch/model"
)

// names: by kind, the word of an operation; that of 0, which is none, stands in no line.
var names = [...]string{
	api.Get:         "get",
	api.Put:         "put",
	api.PutIfAbsent: "ifabsent",
	api.Delete:      "delete",
	api.Successor:   "after",
	api.Predecessor: "before",
	api.Min:         "min",
	api.Max:         "max",
	api.Range:       "range",
}

// kindOf: the kind that the word names; 0: none.
func kindOf(word string) int {
	for kind, name := range names {
		if name == word {
			return kind
		}
	}
	return 0
}

// numbersOf: what the operation's kind uses, in the order in which it is told.
func numbersOf(o *api.Op) []*int {
	switch o.Kind {
	case api.Get, api.Delete, api.Successor, api.Predecessor:
		return []*int{&o.Key}
	case api.Put, api.PutIfAbsent:
		return []*int{&o.Key, &o.Val}
	case api.Range:
		return []*int{&o.Key, &o.Hi}
	}
	return nil
}

// PrintOp: the operation's line, without a line end.
func PrintOp(o api.Op) (string, api.Errno) {
	if e := model.Kind(o.Kind); e != api.OK {
		return "", e
	}
	line := names[o.Kind]
	for _, n := range numbersOf(&o) {
		line += " " + strconv.Itoa(*n)
	}
	return line, api.OK
}

// ParseOp: the operation of a line.
func ParseOp(line string) (api.Op, api.Errno) {
	o, ok := opOf(wordsOf(line)) // a line end cuts no words: with one in it, a word is none of the language
	if !ok {
		return api.Op{}, api.ErrText
	}
	return o, api.OK
}

// opOf: the operation of a line's words, if it is one.
func opOf(words []string) (api.Op, bool) {
	if len(words) == 0 {
		return api.Op{}, false
	}
	o := api.Op{Kind: kindOf(words[0])}
	if o.Kind == 0 || !readNumbers(words[1:], numbersOf(&o)...) {
		return api.Op{}, false
	}
	return o, true
}
