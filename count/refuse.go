package count

import "larch/api"

// refusal: a wrong number of threads, then what is too big (big: so is something that the caller looked at), then the first operation that is refused.
func refusal(cells []int, scripts [][]Op, big bool) api.Errno {
	if len(scripts) < 1 || len(scripts) > api.MaxThreads {
		return api.ErrArg
	}
	if big || len(cells) > api.MaxCells {
		return api.ErrBig
	}
	for _, script := range scripts {
		if len(script) > api.MaxOps {
			return api.ErrBig
		}
	}
	for _, script := range scripts {
		for _, op := range script {
			if e := opError(op, cells); e != api.OK {
				return e
			}
		}
	}
	return api.OK
}

func runError(cells []int, scripts [][]Op, picks []int) api.Errno {
	return refusal(cells, scripts, len(picks) > api.MaxPicks)
}

func opError(op Op, cells []int) api.Errno {
	switch {
	case op.Kind < Inc || op.Kind > Locked:
		return api.ErrKind
	case op.Kind == Sum:
		return api.OK
	case !isCell(op.At, cells):
		return api.ErrArg
	case op.Kind == Locked && (!isCell(op.A, cells) || op.A == op.At):
		return api.ErrArg
	}
	return api.OK
}

func isCell(at int, cells []int) bool {
	return at >= 0 && at < len(cells)
}
