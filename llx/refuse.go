package llx

import (
	"slices"

	"larch/api"
	"larch/record"
)

// Form: the error of a world and scripts.
func Form(w record.World, scripts [][]Act) api.Errno {
	return refusal(w, scripts, false)
}

// refusal: a wrong number of threads, then what is too big (big: so are the picks), then a world that isn't fit, then the first act that doesn't fit.
func refusal(w record.World, scripts [][]Act, big bool) api.Errno {
	if len(scripts) < 1 || len(scripts) > api.MaxThreads {
		return api.ErrArg
	}
	if big || slices.ContainsFunc(scripts, isBig) {
		return api.ErrBig
	}
	if e := record.Check(w); e != api.OK {
		return e
	}
	if slices.Contains(w.States, record.InProgress) {
		return api.ErrForm
	}
	return actsError(w, scripts)
}

func isBig(script []Act) bool {
	return len(script) > api.MaxOps ||
		slices.ContainsFunc(script, func(a Act) bool { return max(len(a.V), len(a.Fin)) > api.MaxCells })
}

func actsError(w record.World, scripts [][]Act) api.Errno {
	spare := spareOf(w)
	for _, script := range scripts {
		for _, a := range script {
			if a.Kind < Link || a.Kind > Swap {
				return api.ErrKind
			}
			if !fits(w, spare, a) {
				return api.ErrArg
			}
			if a.Kind == Swap {
				spare[a.New] = false // no other Swap may have it
			}
		}
	}
	return api.OK
}

// spareOf: by record, whether it may come into a field.
func spareOf(w record.World) []bool {
	spare := make([]bool, len(w.Fields))
	for n := range spare {
		spare[n] = w.Infos[n] == -1 && !w.Marks[n]
	}
	for _, n := range slices.Concat(w.Fields...) {
		if n != -1 {
			spare[n] = false
		}
	}
	return spare
}

// fits: are what its kind uses records, and so on, of the world?
func fits(w record.World, spare []bool, a Act) bool {
	records := len(w.Fields)
	switch a.Kind {
	case Link:
		return isNumber(a.At, records)
	case Check:
		return areRecords(a.V, records)
	}
	return areRecords(a.V, records) && len(a.Fin) == len(a.V) && isNumber(a.Pos, len(a.V)) &&
		isNumber(a.Field, len(w.Fields[a.V[a.Pos]])) && isNumber(a.New, records) && spare[a.New]
}

// areRecords: unlike ones.
func areRecords(v []int, records int) bool {
	for i, n := range v {
		if !isNumber(n, records) || slices.Contains(v[:i], n) {
			return false
		}
	}
	return true
}

// isNumber: of one of so many things?
func isNumber(n, things int) bool { return n >= 0 && n < things }
