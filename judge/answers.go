package judge

import (
	"slices"

	"larch/api"
	"larch/event"
	"larch/model"
)

// Tally: do the keys that came and went by the answers make the end of the start?
func Tally(start []api.Pair, h []api.Event, end []api.Pair) (bool, api.Errno) {
	calls, e := event.Calls(h)
	if e != api.OK {
		return false, e
	}
	keys := make(map[int]account)
	for key := range valuesOf(start) {
		keys[key] = account{sum: 1}
	}
	for _, c := range calls {
		if model.Changes(c.Op.Kind) {
			keys[c.Op.Key] = keys[c.Op.Key].with(c)
		}
	}
	left := valuesOf(end)
	for key := range left {
		a := keys[key]
		a.end = 1
		keys[key] = a
	}
	for _, a := range keys {
		if a.end < a.sum-a.mayGo || a.end > a.sum+a.mayCome {
			return false, api.OK
		}
	}
	return true, api.OK
}

// account is what is known of a key: 1 or 0 at the start, one more or less for each time that it came or went by an answer; how often it may have by what is pending; 1 or 0 at the end.
type account struct {
	sum, mayCome, mayGo, end int
}

// with: and what an update that may change the key did to it.
func (a account) with(c event.Call) account {
	isDelete := c.Op.Kind == api.Delete
	switch {
	case c.To < 0 && isDelete:
		a.mayGo++
	case c.To < 0:
		a.mayCome++
	case isDelete && c.Ret.Ok:
		a.sum--
	case c.Op.Kind == api.Put && !c.Ret.Ok, c.Op.Kind == api.PutIfAbsent && c.Ret.Ok:
		a.sum++
	}
	return a
}

// Sources: was each value that was answered there at first, or put by an operation that had begun?
func Sources(start []api.Pair, h []api.Event) (bool, api.Errno) {
	if e := event.Check(h); e != api.OK {
		return false, e
	}
	held := valuesOf(start)
	put := make(map[api.Pair]int) // how many have begun to put it
	for _, e := range h {
		own := api.Pair{Key: e.Op.Key, Val: e.Op.Val}
		if !e.Return {
			if puts(e.Op.Kind) {
				put[own]++
			}
			continue
		}
		for _, p := range told(e.Op, e.Ret) {
			others := put[p]
			if puts(e.Op.Kind) && p == own {
				others--
			}
			if val, is := held[p.Key]; others == 0 && !(is && val == p.Val) {
				return false, api.OK
			}
		}
	}
	return true, api.OK
}

func puts(kind int) bool { return kind == api.Put || kind == api.PutIfAbsent }

// told: the values that an answer tells, each with its key.
func told(o api.Op, r api.Ret) []api.Pair {
	switch o.Kind {
	case api.Range:
		return r.Pairs
	case api.Get, api.Put, api.Delete:
		if r.Ok {
			return []api.Pair{{Key: o.Key, Val: r.Val}}
		}
	case api.PutIfAbsent:
		if !r.Ok {
			return []api.Pair{{Key: o.Key, Val: r.Val}}
		}
	default:
		if r.Ok {
			return []api.Pair{{Key: r.Key, Val: r.Val}}
		}
	}
	return nil
}

// Shapes: has each answer the shape that its operation gives?
func Shapes(h []api.Event) (bool, api.Errno) {
	if e := event.Check(h); e != api.OK {
		return false, e
	}
	for _, e := range h {
		if e.Return && !isShaped(e.Op, e.Ret) {
			return false, api.OK
		}
	}
	return true, api.OK
}

// isShaped: is all that layer 6 doesn't name in the answer zero, and does the rest lie where it must?
func isShaped(o api.Op, r api.Ret) bool {
	switch o.Kind {
	case api.Get, api.Put, api.Delete:
		return isBare(r, r.Ok)
	case api.PutIfAbsent:
		return isBare(r, !r.Ok)
	case api.Range:
		return r.Ok && r.Key == 0 && r.Val == 0 && isWithin(r.Pairs, o.Key, o.Hi)
	}
	if !r.Ok {
		return isBare(r, false)
	}
	return len(r.Pairs) == 0 && isOnItsSide(o, r.Key)
}

// isBare: has the answer nothing but Ok, and a value at most where it may have one?
func isBare(r api.Ret, mayHaveVal bool) bool {
	return r.Key == 0 && len(r.Pairs) == 0 && (mayHaveVal || r.Val == 0)
}

// isOnItsSide: a neighbour's key lies above or below the one whose neighbour it is.
func isOnItsSide(o api.Op, key int) bool {
	switch o.Kind {
	case api.Successor:
		return key > o.Key
	case api.Predecessor:
		return key < o.Key
	}
	return true
}

// isWithin: do the keys rise, and lie from lo to hi?
func isWithin(pairs []api.Pair, lo, hi int) bool {
	outside := func(p api.Pair) bool { return p.Key < lo || p.Key > hi }
	return model.Check(pairs) == api.OK && !slices.ContainsFunc(pairs, outside)
}

// Pending: how many updates are pending.
func Pending(h []api.Event) (int, api.Errno) {
	if e := event.Check(h); e != api.OK {
		return 0, e
	}
	n := 0
	for _, e := range h {
		switch {
		case !model.Changes(e.Op.Kind):
		case e.Return:
			n--
		default:
			n++
		}
	}
	return n, api.OK
}
