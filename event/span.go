package event

import (
	"slices"

	"larch/api"
)

// pending stands for the place of a return that isn't there.
const pending = -1

// span is where the two events of an operation stand.
type span struct {
	from, to int
}

func (s span) hasReturned() bool {
	return s.to != pending
}

func (s span) isAheadOf(other span) bool {
	return s.hasReturned() && s.to < other.from
}

// spansOf: the operations' spans, by their numbers, or the error of the history. It copies no answers: most calls ask for the places alone.
func spansOf(h []api.Event) ([]span, api.Errno) {
	if len(h) > MaxEvents {
		return nil, api.ErrBig
	}
	var spans []span
	var begun [api.MaxThreads]int // by thread: how many operations there were with the one that is under way; 0 if none is
	for at, e := range h {
		if e.Thread < 0 || e.Thread >= api.MaxThreads {
			return nil, api.ErrForm
		}
		open := begun[e.Thread]
		switch {
		case e.Return && open > 0 && h[spans[open-1].from].Op == e.Op:
			spans[open-1].to = at
			begun[e.Thread] = 0
		case !e.Return && open == 0 && isInvocation(e):
			spans = append(spans, span{from: at, to: pending})
			begun[e.Thread] = len(spans)
		default:
			return nil, api.ErrForm
		}
	}
	return spans, api.OK
}

func isInvocation(e api.Event) bool {
	return e.Op.Kind >= api.Get && e.Op.Kind <= api.Range && isZero(e.Ret)
}

func isZero(r api.Ret) bool {
	return !r.Ok && r.Key == 0 && r.Val == 0 && len(r.Pairs) == 0
}

// copyOf: an answer with a list of pairs of its own.
func copyOf(r api.Ret) api.Ret {
	r.Pairs = slices.Clone(r.Pairs)
	return r
}
