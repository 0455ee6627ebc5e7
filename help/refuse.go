package help

import (
	"slices"

	"larch/api"
	"larch/record"
)

// Check: are these plans for the world's SCX-records?
func Check(w record.World, plans []Plan) api.Errno {
	big := slices.ContainsFunc(plans, func(p Plan) bool { return len(p.V) > api.MaxCells })
	e := record.Check(w)
	switch {
	case big:
		return api.ErrBig
	case e != api.OK:
		return e
	case len(plans) != len(w.States):
		return api.ErrForm
	case slices.ContainsFunc(plans, func(p Plan) bool { return !isInForm(w, p) }):
		return api.ErrForm
	}
	return api.OK
}

// isInForm: for a world that is in form itself.
func isInForm(w record.World, p Plan) bool {
	records, scxs := len(w.Fields), len(w.States)
	if len(p.Infos) != len(p.V) || len(p.Fin) != len(p.V) || !isNumber(p.At, len(p.V)) {
		return false
	}
	if slices.ContainsFunc(p.V, func(n int) bool { return !isNumber(n, records) }) ||
		slices.ContainsFunc(p.Infos, func(n int) bool { return !isNumberOrNone(n, scxs) }) {
		return false
	}
	fields := len(w.Fields[p.V[p.At]])
	return isNumber(p.Field, fields) && isNumberOrNone(p.Old, records) && isNumberOrNone(p.New, records)
}

// isNumber: of one of so many things?
func isNumber(n, things int) bool { return n >= 0 && n < things }

func isNumberOrNone(n, things int) bool { return n == -1 || isNumber(n, things) }

// playError: of Check, then a number in a script, then what baton.Run refuses, or a script that is too long.
func playError(w record.World, plans []Plan, scripts [][]int, picks []int) api.Errno {
	if e := Check(w, plans); e != api.OK {
		return e
	}
	for _, script := range scripts {
		if slices.ContainsFunc(script, func(n int) bool { return !isNumber(n, len(plans)) }) {
			return api.ErrArg
		}
	}
	if len(scripts) < 1 || len(scripts) > api.MaxThreads {
		return api.ErrArg
	}
	if len(picks) > api.MaxPicks || slices.ContainsFunc(scripts, func(script []int) bool { return len(script) > api.MaxOps }) {
		return api.ErrBig
	}
	return api.OK
}
