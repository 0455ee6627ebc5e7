package baton

import "larch/cell"

// stop is what a gate throws to end its worker there; the worker's foot alone recovers it.
type stop struct{}

// worker goes on only while it has the baton. It and whoever has the baton else write its fields in turn.
type worker struct {
	turn   chan bool     // the baton comes: true: go on; false: end where you stand
	back   chan struct{} // the baton goes back: at a gate one is sent, at the end it is closed
	kind   int           // of the access that it stands at
	stands bool          // at a gate
	over   bool          // no pick comes any more
	ended  bool          // by itself
	panics bool          // by a panic of its own
}

func newWorker() *worker {
	return &worker{turn: make(chan bool), back: make(chan struct{})}
}

// Pass stands here till the worker is picked, or is ended.
func (w *worker) Pass(kind int) {
	if w.over { // a deferred call of the body came here again
		panic(stop{})
	}
	w.kind = kind
	w.back <- struct{}{}
	if !<-w.turn {
		w.over = true
		panic(stop{})
	}
}

// live is the worker's foot: it runs the body to its end, however that comes.
func (w *worker) live(number int, body func(worker int, g cell.Gate)) {
	defer close(w.back)
	defer func() {
		w.over = true
		switch recover().(type) {
		case stop:
		case nil:
			w.ended = true
		default:
			w.ended, w.panics = true, true
		}
	}()
	body(number, w)
}

// hand gives the baton to a worker that stands, and waits till it comes back.
func (w *worker) hand(on bool) {
	w.turn <- on
	w.await()
}

// await: till the worker stands at a gate, or has ended.
func (w *worker) await() {
	_, w.stands = <-w.back
}
