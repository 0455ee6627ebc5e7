package once

import (
	"sync/atomic"

	"larch/api"
)

// The kinds of a thing.
const (
	Nil  = 0
	Int  = 1 // an int: N
	Text = 2 // a string: S
	Pair = 3 // a struct of N and S
	List = 4 // a list of so many ints: it can't be compared
)

const maxList = 1000 // ints of a List

// Thing is something of some type.
type Thing struct {
	Kind, N int
	S       string
}

// The kinds of a deed.
const (
	Load  = 1
	Store = 2 // New
	Swap  = 3 // New
	Cas   = 4 // Old, New
)

// Deed is a call on an atomic.Value.
type Deed struct {
	Kind     int
	Old, New Thing
}

// Got is what a deed came to.
type Got struct {
	Thing Thing
	Ok    bool
	Err   api.Errno
}

// Box: the deeds on one atomic.Value, one after the other.
func Box(deeds []Deed) []Got {
	var box atomic.Value
	got := make([]Got, len(deeds))
	for i, d := range deeds {
		got[i] = d.do(&box)
	}
	return got
}

// Can: may two things be compared without a panic?
func Can(a, b Thing) (bool, api.Errno) {
	if a.isNone() || b.isNone() {
		return false, api.ErrArg
	}
	_, panics := tried(func() bool { return a.value() == b.value() })
	return !panics, api.OK
}

func (d Deed) do(box *atomic.Value) Got {
	held := thingOf(box.Load())
	if e := d.refused(held.Kind); e != api.OK {
		return Got{Err: e}
	}
	switch d.Kind {
	case Store:
		box.Store(d.New.value())
		return Got{Ok: true}
	case Swap:
		return Got{Thing: thingOf(box.Swap(d.New.value())), Ok: true}
	case Cas:
		did, panics := tried(func() bool { return box.CompareAndSwap(d.Old.value(), d.New.value()) })
		if panics {
			return Got{Err: api.ErrPanic}
		}
		return Got{Ok: did}
	}
	return Got{Thing: held, Ok: true}
}

// refused: the error of the deed on a value that holds a thing of that kind, but for the one that comparing throws.
func (d Deed) refused(held int) api.Errno {
	if d.Kind < Load || d.Kind > Cas {
		return api.ErrKind
	}
	if d.Kind == Load {
		return api.OK
	}
	if d.Kind == Cas && d.Old.isNone() || d.New.isNone() {
		return api.ErrArg
	}
	if d.New.Kind == Nil {
		return api.ErrNil
	}
	if d.Kind == Cas && !d.New.fits(d.Old.Kind) || !d.New.fits(held) {
		return api.ErrType
	}
	return api.OK
}

// fits: may the thing come into the place of one of that kind?
func (t Thing) fits(kind int) bool {
	return kind == Nil || kind == t.Kind
}

// isNone: does it stand for no thing at all? (Nil is a thing.)
func (t Thing) isNone() bool {
	if t.Kind == List {
		return t.N < 0 || t.N > maxList
	}
	return t.Kind < Nil || t.Kind > List
}

type pair struct {
	n int
	s string
}

// value: the thing itself, of its kind's own type.
func (t Thing) value() any {
	switch t.Kind {
	case Int:
		return t.N
	case Text:
		return t.S
	case Pair:
		return pair{t.N, t.S}
	case List:
		return make([]int, t.N)
	}
	return nil
}

func thingOf(value any) Thing {
	switch v := value.(type) {
	case int:
		return Thing{Kind: Int, N: v}
	case string:
		return Thing{Kind: Text, S: v}
	case pair:
		return Thing{Kind: Pair, N: v.n, S: v.s}
	case []int:
		return Thing{Kind: List, N: len(v)}
	}
	return Thing{}
}

// tried: what ask answers; does it panic instead?
func tried(ask func() bool) (answer, panics bool) {
	defer func() { panics = recover() != nil }()
	return ask(), false
}
