package word

import "larch/api"

// Do: a row of accesses to one word.
func Do(kind int, start uint64, acts []Act) ([]Out, uint64, api.Errno) {
	if e := rowError(kind, acts); e != api.OK {
		return nil, 0, e
	}
	w := newWord(kind, start)
	outs := make([]Out, len(acts))
	for i, a := range acts {
		outs[i] = w.do(a)
	}
	return outs, load(w), api.OK
}

// Steps: what the word holds behind each access.
func Steps(kind int, start uint64, acts []Act) ([]uint64, api.Errno) {
	if e := rowError(kind, acts); e != api.OK {
		return nil, e
	}
	w := newWord(kind, start)
	held := make([]uint64, len(acts))
	for i, a := range acts {
		w.do(a)
		held[i] = load(w)
	}
	return held, api.OK
}

func rowError(kind int, acts []Act) api.Errno {
	if !isKind(kind) {
		return api.ErrKind
	}
	if len(acts) > MaxActs {
		return api.ErrBig
	}
	for _, a := range acts {
		if !hasAccess(kind, a.Kind) {
			return api.ErrKind
		}
	}
	return api.OK
}
