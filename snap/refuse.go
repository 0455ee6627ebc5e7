package snap

import "larch/api"

// refusal: a wrong number of threads, then what is too big (big: so are the picks), then the first operation that is refused.
func refusal(regs []int, scripts [][]Op, big bool) api.Errno {
	if len(scripts) < 1 || len(scripts) > api.MaxThreads {
		return api.ErrArg
	}
	if big || len(regs) > api.MaxCells {
		return api.ErrBig
	}
	for _, script := range scripts {
		if len(script) > api.MaxOps {
			return api.ErrBig
		}
	}
	for _, script := range scripts {
		for _, op := range script {
			if e := opError(op, len(regs)); e != api.OK {
				return e
			}
		}
	}
	return api.OK
}

func opError(op Op, regs int) api.Errno {
	if op.Kind < Write || op.Kind > Snap {
		return api.ErrKind
	}
	if op.Kind != Snap && (op.At < 0 || op.At >= regs) {
		return api.ErrArg
	}
	return api.OK
}

func freeError(writers, writes, readers, looks int) api.Errno {
	if min(writers, writes, readers, looks) < 0 {
		return api.ErrArg
	}
	if writers > api.MaxCells || readers > api.MaxThreads-writers {
		return api.ErrBig
	}
	if snapsOf(writers, writes)+snapsOf(readers, looks) > MaxFree {
		return api.ErrBig
	}
	return api.OK
}

// snapsOf: how many snapshots threads take, each so many; if these are more than may be, there are still more than may be, but the product can't wrap round.
func snapsOf(threads, each int) int {
	return threads * min(each, MaxFree+1)
}

func tradesError(lists [][]int) api.Errno {
	if len(lists) > api.MaxThreads {
		return api.ErrBig
	}
	all := 0
	for _, list := range lists {
		all += len(list)
	}
	if all > MaxFree {
		return api.ErrBig
	}
	return api.OK
}
