package free

import (
	"slices"

	"larch/api"
)

const mostNumbers = 20000 // of all workers of Stack or Queue together

// refusal: of so many workers, and of plain numbers and lengths of lists.
func refusal(workers int, sizes ...int) api.Errno {
	if workers < 1 || workers > api.MaxThreads || slices.ContainsFunc(sizes, isBelowZero) {
		return api.ErrArg
	}
	if slices.ContainsFunc(sizes, isTooMany) {
		return api.ErrBig
	}
	return api.OK
}

func isBelowZero(size int) bool { return size < 0 }

func isTooMany(size int) bool { return size > api.MaxOps }

// eachRefusal: and of the numbers that they have in all.
func eachRefusal(workers, each int) api.Errno {
	if e := refusal(workers, each); e != api.OK {
		return e
	}
	if workers*each > mostNumbers {
		return api.ErrBig
	}
	return api.OK
}

// apartRefusal: a kind that is none of the four counts ahead of a key in two scripts.
func apartRefusal(scripts [][]api.Op) api.Errno {
	sizes := make([]int, len(scripts))
	for worker, script := range scripts {
		sizes[worker] = len(script)
	}
	if e := refusal(len(scripts), sizes...); e != api.OK {
		return e
	}
	if slices.ContainsFunc(scripts, hasOtherKind) {
		return api.ErrKind
	}
	if shareKey(scripts) {
		return api.ErrArg
	}
	return api.OK
}

func hasOtherKind(script []api.Op) bool {
	return slices.ContainsFunc(script, func(o api.Op) bool { return o.Kind < api.Get || o.Kind > api.Delete })
}

// shareKey: does a key stand in two scripts?
func shareKey(scripts [][]api.Op) bool {
	owner := make(map[int]int) // by key: in whose script it stands
	for worker, script := range scripts {
		for _, o := range script {
			if other, is := owner[o.Key]; is && other != worker {
				return true
			}
			owner[o.Key] = worker
		}
	}
	return false
}
