package word

import (
	"sync/atomic"

	"larch/api"
)

// word is one atomic number of some kind. Its do is one atomic access; whoever calls it has asked, by hasAccess, that there is one.
type word interface {
	do(a Act) Out
}

// number has the Go types of the kinds that can be added to.
type number interface {
	int32 | int64 | uint32 | uint64 | uintptr
}

// atomicNumber is what sync/atomic's types for these have in common.
type atomicNumber[N number] interface {
	Load() N
	Store(n N)
	Add(n N) N
	Swap(n N) N
	CompareAndSwap(old, n N) bool
	And(n N) N
	Or(n N) N
}

type numberWord[N number] struct {
	kind int
	at   atomicNumber[N]
}

func (w numberWord[N]) do(a Act) Out {
	switch a.Kind {
	case api.Load:
		return w.got(w.at.Load())
	case api.Store:
		w.at.Store(N(a.A))
		return Out{Ok: true}
	case api.Add:
		return w.got(w.at.Add(N(a.A)))
	case api.Swap:
		return w.got(w.at.Swap(N(a.A)))
	case api.Cas:
		return Out{Ok: w.at.CompareAndSwap(N(a.A), N(a.B))}
	case api.And:
		return w.got(w.at.And(N(a.A)))
	case api.Or:
		return w.got(w.at.Or(N(a.A)))
	}
	return Out{}
}

// got narrows, since a negative int32 has bits above the lowest 32 when it is made a uint64.
func (w numberWord[N]) got(n N) Out {
	return Out{Val: narrow(w.kind, uint64(n)), Ok: true}
}

type boolWord struct {
	at *atomic.Bool
}

func (w boolWord) do(a Act) Out {
	switch a.Kind {
	case api.Load:
		return boolGot(w.at.Load())
	case api.Store:
		w.at.Store(a.A != 0)
		return Out{Ok: true}
	case api.Swap:
		return boolGot(w.at.Swap(a.A != 0))
	case api.Cas:
		return Out{Ok: w.at.CompareAndSwap(a.A != 0, a.B != 0)}
	}
	return Out{}
}

func boolGot(set bool) Out {
	if set {
		return Out{Val: 1, Ok: true}
	}
	return Out{Ok: true}
}

// newWord makes a word that holds start; the kind is one of the six.
func newWord(kind int, start uint64) word {
	w := zeroWord(kind)
	w.do(Act{Kind: api.Store, A: start})
	return w
}

func zeroWord(kind int) word {
	switch kind {
	case I32:
		return numberWord[int32]{kind, new(atomic.Int32)}
	case I64:
		return numberWord[int64]{kind, new(atomic.Int64)}
	case U32:
		return numberWord[uint32]{kind, new(atomic.Uint32)}
	case U64:
		return numberWord[uint64]{kind, new(atomic.Uint64)}
	case Uptr:
		return numberWord[uintptr]{kind, new(atomic.Uintptr)}
	}
	return boolWord{new(atomic.Bool)}
}

// hasAccess: is there such an access to a word of the kind?
func hasAccess(kind, access int) bool {
	switch access {
	case api.Load, api.Store, api.Swap, api.Cas:
		return true
	case api.Add, api.And, api.Or:
		return kind != Bool
	}
	return false
}

func load(w word) uint64 {
	return w.do(Act{Kind: api.Load}).Val
}
