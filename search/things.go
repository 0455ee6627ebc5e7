package search

import (
	"larch/api"
	"larch/model"
)

// The kinds of the operations of all things but the map, whose kinds are package api's.
const (
	read     = 1 // of a register and a counter
	exchange = 3 // of a register; between the two stands its write
	put      = 1 // of a stack and a queue; their other kind takes
)

// kinds has the greatest kind of each thing's operations; the least one is 1.
var kinds = [...]int{Register: 3, Counter: 2, Stack: 2, Queue: 2, Map: api.Range}

func hasKind(thing, kind int) bool {
	return kind >= 1 && kind <= kinds[thing]
}

func isInForm(thing int, s State) bool {
	switch thing {
	case Register, Counter:
		return len(s.Vals) == 1 && len(s.Pairs) == 0
	case Map:
		return len(s.Vals) == 0 && model.Check(s.Pairs) == api.OK
	}
	return len(s.Pairs) == 0
}

// change does an operation on a thing that holds vals, in their memory: what it holds then, and the answer.
func change(thing int, vals []int, op api.Op) ([]int, api.Ret) {
	switch thing {
	case Register:
		return vals, doRegister(&vals[0], op)
	case Counter:
		return vals, doCounter(&vals[0], op)
	}
	if op.Kind == put {
		return append(vals, op.Val), api.Ret{Ok: true}
	}
	if len(vals) == 0 {
		return vals, api.Ret{}
	}
	if thing == Queue {
		return vals[1:], api.Ret{Ok: true, Val: vals[0]}
	}
	top := len(vals) - 1
	return vals[:top], api.Ret{Ok: true, Val: vals[top]}
}

func doRegister(held *int, op api.Op) api.Ret {
	if op.Kind == read {
		return api.Ret{Ok: true, Val: *held}
	}
	if op.Kind == exchange && *held != op.Key {
		return api.Ret{}
	}
	*held = op.Val
	return api.Ret{Ok: true}
}

func doCounter(held *int, op api.Op) api.Ret {
	if op.Kind != read {
		*held += op.Val
	}
	return api.Ret{Ok: true, Val: *held}
}
