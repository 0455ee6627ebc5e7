package record

import (
	"slices"

	"larch/api"
)

// refusal: what is too big, then a world that isn't in form, then the first act that is refused.
func refusal(w World, acts []Act) api.Errno {
	if len(acts) > api.MaxOps {
		return api.ErrBig
	}
	if e := Check(w); e != api.OK {
		return e
	}
	for _, a := range acts {
		if e := actError(w, a); e != api.OK {
			return e
		}
	}
	return api.OK
}

// Check: the error of a world: too big, or not in form.
func Check(w World) api.Errno {
	if isBig(w) {
		return api.ErrBig
	}
	if !isInForm(w) {
		return api.ErrForm
	}
	return api.OK
}

func isBig(w World) bool {
	return len(w.Fields) > api.MaxCells || len(w.States) > api.MaxCells ||
		slices.ContainsFunc(w.Fields, func(fields []int) bool { return len(fields) > api.MaxCells })
}

func isInForm(w World) bool {
	records, scxs := len(w.Fields), len(w.States)
	if len(w.Infos) != records || len(w.Marks) != records || len(w.Frozen) != scxs {
		return false
	}
	for _, fields := range w.Fields {
		if slices.ContainsFunc(fields, func(n int) bool { return !isNumberOrNone(n, records) }) {
			return false
		}
	}
	return !slices.ContainsFunc(w.Infos, func(n int) bool { return !isNumberOrNone(n, scxs) }) &&
		!slices.ContainsFunc(w.States, func(state int) bool { return state < InProgress || state > Aborted })
}

// isNumber: of one of so many things?
func isNumber(n, things int) bool { return n >= 0 && n < things }

func isNumberOrNone(n, things int) bool { return n == none || isNumber(n, things) }

// actError: of an act in a world that is in form.
func actError(w World, a Act) api.Errno {
	if a.Kind < Get || a.Kind > SetAllFrozen {
		return api.ErrKind
	}
	if !inRange(w, a) {
		return api.ErrArg
	}
	return api.OK
}

// inRange: are all the numbers that its kind uses in their range?
func inRange(w World, a Act) bool {
	records, scxs := len(w.Fields), len(w.States)
	if a.Kind >= State {
		return isNumber(a.At, scxs)
	}
	if !isNumber(a.At, records) {
		return false
	}
	fields := len(w.Fields[a.At])
	switch a.Kind {
	case Get:
		return isNumber(a.A, fields)
	case Swing:
		return isNumber(a.A, fields) && isNumberOrNone(a.B, records) && isNumberOrNone(a.C, records)
	case Freeze:
		return isNumberOrNone(a.B, scxs) && isNumber(a.C, scxs)
	}
	return true
}
