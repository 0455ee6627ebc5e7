package cell

import "larch/api"

const maxThings = 64 // of Ids

func tooMany(cells, acts int) bool {
	return cells > api.MaxCells || acts > api.MaxOps
}

// firstRefused: the error of the first act that has one.
func firstRefused(acts []Act, errorOf func(a Act) api.Errno) api.Errno {
	for _, a := range acts {
		if e := errorOf(a); e != api.OK {
			return e
		}
	}
	return api.OK
}

func numError(a Act, cells int) api.Errno {
	if a.Kind < api.Load || a.Kind > api.Or {
		return api.ErrKind
	}
	return placeError(a.At, cells)
}

// cellError is of cells and marks, which can't be added to.
func cellError(a Act, cells int) api.Errno {
	switch a.Kind {
	case api.Load, api.Store, api.Swap, api.Cas:
		return placeError(a.At, cells)
	}
	return api.ErrKind
}

func idError(a Act, cells, things int) api.Errno {
	if e := cellError(a, cells); e != api.OK {
		return e
	}
	if a.Kind != api.Load && !isThing(a.A, things) || a.Kind == api.Cas && !isThing(a.B, things) {
		return api.ErrArg
	}
	return api.OK
}

func placeError(at, cells int) api.Errno {
	if at < 0 || at >= cells {
		return api.ErrArg
	}
	return api.OK
}

// isThing: is n the number of a thing, or of nil?
func isThing(n, things int) bool {
	return n >= -1 && n < things
}
