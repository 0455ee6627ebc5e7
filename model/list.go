package model

import (
	"cmp"
	"slices"

	"larch/api"
)

// Check: is the list a map: do its keys rise?
func Check(m []api.Pair) api.Errno {
	for i := 1; i < len(m); i++ {
		if m[i-1].Key >= m[i].Key {
			return api.ErrOrder
		}
	}
	return api.OK
}

// Of: the map of pairs in any order; of one key the last one counts.
func Of(pairs []api.Pair) []api.Pair {
	m := slices.Clone(pairs)
	slices.Reverse(m) // of one key the first pair stays
	slices.SortStableFunc(m, func(a, b api.Pair) int { return cmp.Compare(a.Key, b.Key) })
	return slices.CompactFunc(m, func(a, b api.Pair) bool { return a.Key == b.Key })
}

// Find: where the key stands, or would stand.
func Find(m []api.Pair, key int) (int, bool, api.Errno) {
	if e := Check(m); e != api.OK {
		return 0, false, e
	}
	at, there := place(m, key)
	return at, there, api.OK
}

// place: Find, of a list that is a map.
func place(m []api.Pair, key int) (int, bool) {
	return slices.BinarySearchFunc(m, key, func(p api.Pair, key int) int { return cmp.Compare(p.Key, key) })
}

// Part: the pairs from lo to hi.
func Part(m []api.Pair, lo, hi int) ([]api.Pair, api.Errno) {
	if e := Check(m); e != api.OK {
		return nil, e
	}
	return slices.Clone(between(m, lo, hi)), api.OK
}

// between: the piece of m itself from lo to hi.
func between(m []api.Pair, lo, hi int) []api.Pair {
	if lo > hi {
		return nil
	}
	from, _ := place(m, lo)
	to, there := place(m, hi)
	if there {
		to++
	}
	return m[from:to]
}

// Differ: the keys that just one of the maps has, or that have unlike values.
func Differ(a, b []api.Pair) ([]int, api.Errno) {
	if Check(a) != api.OK || Check(b) != api.OK {
		return nil, api.ErrOrder
	}
	var keys []int
	for len(a) > 0 && len(b) > 0 {
		least := min(a[0].Key, b[0].Key)
		if a[0] != b[0] {
			keys = append(keys, least)
		}
		a, b = above(a, least), above(b, least)
	}
	for _, p := range slices.Concat(a, b) { // one of them is empty
		keys = append(keys, p.Key)
	}
	return keys, api.OK
}

// above: the map without its first pair, if that has the key.
func above(m []api.Pair, key int) []api.Pair {
	if m[0].Key == key {
		return m[1:]
	}
	return m
}

// Same: are the lists equal?
func Same(a, b []api.Pair) bool {
	return slices.Equal(a, b)
}

// SameRet: are the answers equal?
func SameRet(a, b api.Ret) bool {
	return a.Ok == b.Ok && a.Key == b.Key && a.Val == b.Val && Same(a.Pairs, b.Pairs)
}
