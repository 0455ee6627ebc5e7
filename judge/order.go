package judge

import (
	"cmp"
	"slices"

	"larch/api"
	"larch/event"
	"larch/model"
	"larch/search"
)

// Order: is there an order of the history?
func Order(start []api.Pair, h []api.Event) (bool, api.Errno) {
	_, is, e := Witness(start, h)
	return is, e
}

// Witness: the first order.
func Witness(start []api.Pair, h []api.Event) ([]int, bool, api.Errno) {
	if e := event.Check(h); e != api.OK { // layer 7 tells another error of one that is too long
		return nil, false, e
	}
	return search.Find(search.Map, search.State{Pairs: model.Of(start)}, h)
}

// Keys: is there an order for each key by itself?
func Keys(start []api.Pair, h []api.Event) (bool, api.Errno) {
	if e := keysError(h); e != api.OK {
		return false, e
	}
	held := valuesOf(start)
	for rest := byKey(h); len(rest) > 0; {
		key := rest[0].Op.Key
		part := rest[:countOf(rest, key)]
		rest = rest[len(part):]
		var own []api.Pair // no other pair of the start is seen by these operations
		if val, is := held[key]; is {
			own = []api.Pair{{Key: key, Val: val}}
		}
		if is, e := Order(own, part); !is {
			return false, e
		}
	}
	return true, api.OK
}

// keysError: of the history; then the first operation that is of another kind, or one too many of its key.
func keysError(h []api.Event) api.Errno {
	if e := event.Check(h); e != api.OK {
		return e
	}
	many := make(map[int]int)
	for _, e := range h {
		if e.Return {
			continue
		}
		if !isOfOneKey(e.Op.Kind) {
			return api.ErrKind
		}
		many[e.Op.Key]++
		if many[e.Op.Key] > search.MaxSearch {
			return api.ErrBig
		}
	}
	return api.OK
}

func isOfOneKey(kind int) bool { return kind >= api.Get && kind <= api.Delete }

// byKey: one key behind the other; the sort is stable, so that each keeps its order.
func byKey(h []api.Event) []api.Event {
	sorted := slices.Clone(h)
	slices.SortStableFunc(sorted, func(x, y api.Event) int { return cmp.Compare(x.Op.Key, y.Op.Key) })
	return sorted
}

// countOf: how many events at the beginning are of the key.
func countOf(h []api.Event, key int) int {
	n := 0
	for n < len(h) && h[n].Op.Key == key {
		n++
	}
	return n
}

// valuesOf: by key; of one that stands twice the last one counts.
func valuesOf(pairs []api.Pair) map[int]int {
	values := make(map[int]int, len(pairs))
	for _, p := range pairs {
		values[p.Key] = p.Val
	}
	return values
}

// Part: the events of the operations on one key.
func Part(h []api.Event, key int) ([]api.Event, api.Errno) {
	if e := event.Check(h); e != api.OK {
		return nil, e
	}
	var part []api.Event
	for _, e := range h {
		if isOfOneKey(e.Op.Kind) && e.Op.Key == key {
			e.Ret.Pairs = slices.Clone(e.Ret.Pairs)
			part = append(part, e)
		}
	}
	return part, api.OK
}
