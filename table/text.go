package table

import (
	"strconv"

	"larch/api"
)

// closing stands in a row of places for the ")" of an inner node.
const closing = -1

// Text: the tree as a text.
func Text(t []api.Node) (string, api.Errno) {
	if e := Check(t); e != api.OK {
		return "", e
	}
	var text []byte
	for ahead := []int{0}; len(ahead) > 0; { // doesn't call itself, since a tree can be deep
		place := ahead[len(ahead)-1]
		ahead = ahead[:len(ahead)-1]
		if place == closing {
			text = append(text, ')')
			continue
		}
		if place > 0 {
			text = append(text, ' ')
		}
		n := t[place]
		text = appendHead(text, n)
		if isLeaf(n) {
			text = append(text, ')')
		} else {
			ahead = append(ahead, closing, n.Right, n.Left)
		}
	}
	return string(text), api.OK
}

// appendHead: the node's text, up to its children, or its end.
func appendHead(text []byte, n api.Node) []byte {
	text = append(text, '(')
	if n.Inf == 1 {
		text = append(text, infinity...)
	} else {
		text = strconv.AppendInt(text, int64(n.Key), 10)
	}
	text = append(text, ':')
	text = strconv.AppendInt(text, int64(n.Weight), 10)
	if isLeaf(n) && n.Inf == 0 {
		text = append(text, '=')
		text = strconv.AppendInt(text, int64(n.Val), 10)
	}
	return text
}
