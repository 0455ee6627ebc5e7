package shell

import (
	"strconv"
	"strings"

	"larch/api"
)

// Tell: an event as a line, without a line end.
func Tell(e api.Event) string {
	line := threadName(e.Thread) + " " + tellOp(e.Op)
	if e.Return {
		line += " -> " + tellRet(e.Op.Kind, e.Ret)
	}
	return line
}

func threadName(thread int) string { return "t" + strconv.Itoa(thread) }

// tellOp: an operation of any kind.
func tellOp(o api.Op) string {
	line, e := PrintOp(o)
	if e != api.OK {
		return "kind " + strconv.Itoa(o.Kind)
	}
	return line
}

// tellRet: what an operation of the kind answered.
func tellRet(kind int, r api.Ret) string {
	words := []string{yesOrNo(r.Ok)}
	switch kind {
	case api.Get, api.Put, api.PutIfAbsent, api.Delete:
		words = append(words, strconv.Itoa(r.Val))
	case api.Successor, api.Predecessor, api.Min, api.Max:
		words = append(words, tellPair(api.Pair{Key: r.Key, Val: r.Val}))
	default:
		for _, p := range r.Pairs {
			words = append(words, tellPair(p))
		}
	}
	return strings.Join(words, " ")
}

func yesOrNo(is bool) string {
	if is {
		return "yes"
	}
	return "no"
}

func tellPair(p api.Pair) string { return strconv.Itoa(p.Key) + ":" + strconv.Itoa(p.Val) }
