package queue

import (
	"slices"

	"larch/api"
	"larch/together"
)

// Rush: a goroutine for each list of operations, all at once, without a gate: all that was taken and is left, rising; and was it taken in order?
func Rush(vals []int, scripts [][]api.Op) ([]int, bool, api.Errno) {
	if e := rushError(vals, scripts); e != api.OK {
		return nil, false, e
	}
	took, left := rush(vals, scripts)
	all := slices.Concat(slices.Concat(took...), left)
	for i, name := range all {
		all[i] = valueOf(name, vals, scripts)
	}
	slices.Sort(all)
	return all, inOrder(len(scripts)+1, took, left), api.OK
}

// rushError: behind what all calls refuse come the errors that baton.Ops has of scripts.
func rushError(vals []int, scripts [][]api.Op) api.Errno {
	if e := refusal(vals, scripts...); e != api.OK {
		return e
	}
	if len(scripts) < 1 || len(scripts) > api.MaxThreads {
		return api.ErrArg
	}
	if slices.ContainsFunc(scripts, isTooLong) {
		return api.ErrBig
	}
	return api.OK
}

// rush: the names that each thread took, and those that are left. Names stand in the queue for the values, so that equal ones are told apart.
func rush(vals []int, scripts [][]api.Op) (took [][]int, left []int) {
	first := make([]int, len(vals))
	for place := range first {
		first[place] = nameOf(0, place)
	}
	q := New(first)
	took = make([][]int, len(scripts))
	together.Run(len(scripts), func(thread int) {
		var mine []int
		for place, op := range scripts[thread] {
			if op.Kind == put {
				q.Put(nil, nameOf(thread+1, place))
			} else if name, ok := q.Take(nil); ok {
				mine = append(mine, name)
			}
		}
		took[thread] = mine
	})
	return took, q.Items()
}

// nameOf: source 0 is the list of vals, another one the script of the thread with a number one less. No list is longer than MaxOps.
func nameOf(source, place int) int {
	return source*api.MaxOps + place
}

func sourceOf(name int) int { return name / api.MaxOps }

func placeOf(name int) int { return name % api.MaxOps }

func valueOf(name int, vals []int, scripts [][]api.Op) int {
	if sourceOf(name) == 0 {
		return vals[placeOf(name)]
	}
	return scripts[sourceOf(name)-1][placeOf(name)].Val
}

// inOrder: of each source, do the places that each thread took rise, and those that are left, from the greatest one on that was taken?
func inOrder(sources int, took [][]int, left []int) bool {
	none := slices.Repeat([]int{-1}, sources)
	greatest := slices.Clone(none)
	for _, names := range took {
		if !rise(names, none) {
			return false
		}
		for _, name := range names {
			greatest[sourceOf(name)] = max(greatest[sourceOf(name)], placeOf(name))
		}
	}
	return rise(left, greatest)
}

// rise: by source, do the names' places rise, all of them above the given one?
func rise(names, above []int) bool {
	last := slices.Clone(above)
	for _, name := range names {
		if placeOf(name) <= last[sourceOf(name)] {
			return false
		}
		last[sourceOf(name)] = placeOf(name)
	}
	return true
}
