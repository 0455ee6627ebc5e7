package baton

import "larch/api"

// refusal: a wrong number counts ahead of one that is too big.
func refusal(wrong, big bool) api.Errno {
	if wrong {
		return api.ErrArg
	}
	if big {
		return api.ErrBig
	}
	return api.OK
}

func isCrew(n int) bool {
	return n >= 1 && n <= api.MaxThreads
}

func tooManyPicks(picks []int) bool {
	return len(picks) > api.MaxPicks
}

// tooLong: is one of the scripts longer than a thread's may be?
func tooLong[T any](scripts [][]T) bool {
	for _, script := range scripts {
		if len(script) > api.MaxOps {
			return true
		}
	}
	return false
}
