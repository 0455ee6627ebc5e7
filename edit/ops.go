package edit

import (
	"larch/api"
	"larch/cell"
)

// Map is what does the four operations that a tree of layers 21 and 22 has.
type Map interface {
	Get(g cell.Gate, key int) (int, bool)
	Put(g cell.Gate, key, val int) (int, bool)
	PutIfAbsent(g cell.Gate, key, val int) (int, bool)
	Delete(g cell.Gate, key int) (int, bool)
}

// Do: the operation; ErrKind, if it is none of the four.
func Do(m Map, g cell.Gate, o api.Op) (api.Ret, api.Errno) {
	var ret api.Ret
	switch o.Kind {
	case api.Get:
		ret.Val, ret.Ok = m.Get(g, o.Key)
	case api.Put:
		ret.Val, ret.Ok = m.Put(g, o.Key, o.Val)
	case api.PutIfAbsent:
		ret.Val, ret.Ok = m.PutIfAbsent(g, o.Key, o.Val)
	case api.Delete:
		ret.Val, ret.Ok = m.Delete(g, o.Key)
	default:
		return api.Ret{}, api.ErrKind
	}
	return ret, api.OK
}

// All: the operations one behind the other, without a gate; the answers.
func All(m Map, ops []api.Op) []api.Ret {
	rets := make([]api.Ret, len(ops))
	for i, o := range ops {
		rets[i], _ = Do(m, nil, o)
	}
	return rets
}

// Tape: the kinds of the accesses of the operations one behind the other, Start ahead of each one's.
func Tape(m Map, ops []api.Op) []int {
	tape := cell.NewTape()
	for _, o := range ops {
		tape.Pass(api.Start)
		_, _ = Do(m, tape, o)
	}
	return tape.Kinds()
}
