package stack

import (
	"slices"

	"larch/api"
	"larch/baton"
	"larch/cell"
)

// The kinds of an operation.
const (
	Push = 1 // Val
	Pop  = 2
	Top  = 3
	Take = 4
	All  = 5
)

// Op is an operation as plain data.
type Op struct {
	Kind, Val int
}

// Got is its answer.
type Got struct {
	Ok   bool
	Val  int
	Vals []int
}

// Note is an operation's invocation, or (Return) its return.
type Note struct {
	Worker int
	Return bool
	Op     Op
	Got    Got // of a return
}

// Played is what a run did.
type Played struct {
	baton.Told
	Notes []Note
	Left  []int // what is on the stack then, the top first
}

// Play: a worker for each list of operations, on one stack that holds start (the top first); the picks.
func Play(start []int, scripts [][]Op, picks []int) (Played, api.Errno) {
	if len(scripts) < 1 || len(scripts) > api.MaxThreads {
		return Played{}, api.ErrArg
	}
	if len(picks) > api.MaxPicks {
		return Played{}, api.ErrBig
	}
	if e := refusal(start, scripts...); e != api.OK {
		return Played{}, e
	}
	var notes []Note // no lock: one worker goes on at a time
	s := holding(start)
	told, _ := baton.Run(len(scripts), picks, func(worker int, g cell.Gate) {
		for _, op := range scripts[worker] {
			g.Pass(api.Start)
			notes = append(notes, Note{Worker: worker, Op: op})
			got := do(s, g, op)
			notes = append(notes, Note{Worker: worker, Return: true, Op: op, Got: got})
		}
	})
	return Played{Told: told, Notes: notes, Left: s.All(nil)}, api.OK
}

// Alone: the operations one after the other: the answers, what is left, the kinds of the accesses.
func Alone(start []int, ops []Op) ([]Got, []int, []int, api.Errno) {
	if e := refusal(start, ops); e != api.OK {
		return nil, nil, nil, e
	}
	tape := cell.NewTape()
	s := holding(start)
	gots := make([]Got, len(ops))
	for i, op := range ops {
		gots[i] = do(s, tape, op)
	}
	return gots, s.All(nil), tape.Kinds(), api.OK
}

// holding: a stack that holds these, the first one on top.
func holding(vals []int) *Stack[int] {
	s := new(Stack[int])
	for _, v := range slices.Backward(vals) {
		s.Push(nil, v)
	}
	return s
}

// do does an operation of one of the kinds, and tells its answer.
func do(s *Stack[int], g cell.Gate, op Op) Got {
	switch op.Kind {
	case Push:
		s.Push(g, op.Val)
		return Got{Ok: true}
	case Pop:
		v, ok := s.Pop(g)
		return Got{Ok: ok, Val: v}
	case Top:
		v, ok := s.Top(g)
		return Got{Ok: ok, Val: v}
	case Take:
		return Got{Ok: true, Vals: s.Take(g)}
	}
	return Got{Ok: true, Vals: s.All(g)}
}

// refusal: what is too long counts ahead of a kind that there isn't.
func refusal(start []int, scripts ...[]Op) api.Errno {
	if len(start) > api.MaxOps {
		return api.ErrBig
	}
	for _, script := range scripts {
		if len(script) > api.MaxOps {
			return api.ErrBig
		}
	}
	for _, script := range scripts {
		if slices.ContainsFunc(script, hasNoKind) {
			return api.ErrKind
		}
	}
	return api.OK
}

func hasNoKind(op Op) bool {
	return op.Kind < Push || op.Kind > All
}
