package stack_test

import (
	"math/rand"
	"slices"
	"testing"

	"larch/api"
	"larch/search"
	"larch/stack"
)

// call is an operation of a game: when it was invoked and returned, as places in the notes; to is -1, if it hasn't returned.
type call struct {
	op       stack.Op
	got      stack.Got
	from, to int
}

func callsOf(notes []stack.Note) []call {
	var calls []call
	open := map[int]int{} // by worker: its last call
	for at, n := range notes {
		if !n.Return {
			open[n.Worker] = len(calls)
			calls = append(calls, call{op: n.Op, from: at, to: -1})
			continue
		}
		c := &calls[open[n.Worker]]
		c.got, c.to = n.Got, at
	}
	return calls
}

// isRight: is there an order of the calls that returned, and some others, in which a stack with these values answers so, and holds left in the end? in is the set of those that stand in it already.
func isRight(calls []call, in int, now, left []int) bool {
	missing := false
	for i, c := range calls {
		missing = missing || c.to != -1 && in&(1<<i) == 0
	}
	if !missing && slices.Equal(now, left) {
		return true
	}
	for i, c := range calls {
		if in&(1<<i) != 0 || slices.ContainsFunc(calls, func(d call) bool { return d.to != -1 && d.to < c.from && !isIn(calls, in, d) }) {
			continue
		}
		gots, then, _ := alone(now, ops(c.op))
		if (c.to == -1 || sameGot(gots[0], c.got)) && isRight(calls, in|1<<i, then, left) {
			return true
		}
	}
	return false
}

func isIn(calls []call, in int, d call) bool {
	for i, c := range calls {
		if c.from == d.from {
			return in&(1<<i) != 0
		}
	}
	return false
}

// eachGame calls look with games of few operations, most of them behind picks that end in the midst.
func eachGame(t *testing.T, seed int64, look func(start []int, scripts [][]stack.Op, p stack.Played)) {
	r := rand.New(rand.NewSource(seed))
	for range 400 {
		scripts := someScripts(r, 1+r.Intn(4), 2)
		start := someStart(r, 2)
		picks := somePicks(r, len(scripts), 40)
		p, e := stack.Play(start, scripts, picks)
		if e != api.OK {
			t.Fatalf("Play(%v, %v, %v): %d", start, scripts, picks, e)
		}
		look(start, scripts, p)
	}
}

func TestThereIsAnOrder(t *testing.T) { // P9.3
	overlap := 0
	eachGame(t, 4, func(start []int, scripts [][]stack.Op, p stack.Played) {
		calls := callsOf(p.Notes)
		if !isRight(calls, 0, start, p.Left) {
			t.Fatalf("Play(%v, %v, %v): no order: %v", start, scripts, p.Steps, p)
		}
		for i, c := range calls {
			if slices.ContainsFunc(calls[i+1:], func(d call) bool { return c.to > d.from }) {
				overlap++
			}
		}
	})
	eachList(2, 9, func(picks []int) {
		scripts := workers(ops(push(1), pop), ops(take, push(2)))
		p, e := stack.Play([]int{8, 9}, scripts, picks)
		if e != api.OK || !isRight(callsOf(p.Notes), 0, []int{8, 9}, p.Left) {
			t.Fatalf("Play([8 9], %v, %v): no order: %v, %d", scripts, picks, p, e)
		}
	})
	if overlap < 100 {
		t.Errorf("%d calls overlap: the test sees too little", overlap)
	}
}

// TestThereIsAnOrderOfLayer7: the same, of Pushes and Pops, by the search of layer 7, whose stacks have their tops last.
func TestThereIsAnOrderOfLayer7(t *testing.T) { // P9.3
	r := rand.New(rand.NewSource(5))
	for range 300 {
		scripts := someScripts(r, 1+r.Intn(4), 2)
		for _, script := range scripts {
			for i := range script {
				script[i].Kind = stack.Push + r.Intn(2)
			}
		}
		start := someStart(r, 2)
		p, _ := stack.Play(start, scripts, somePicks(r, len(scripts), 50))
		var h []api.Event
		for _, n := range p.Notes {
			h = append(h, api.Event{Thread: n.Worker, Return: n.Return, Op: api.Op{Kind: n.Op.Kind, Val: n.Op.Val}, Ret: api.Ret{Ok: n.Got.Ok, Val: n.Got.Val}})
		}
		state := search.State{Vals: slices.Clone(start)}
		slices.Reverse(state.Vals)
		ends, e := search.Ends(search.Stack, state, h)
		if e != api.OK || !slices.ContainsFunc(ends, func(s search.State) bool { slices.Reverse(s.Vals); return slices.Equal(s.Vals, p.Left) }) {
			t.Fatalf("Play(%v, %v): left %v, the orders come to %v, %d", start, scripts, p.Left, ends, e)
		}
	}
}

// TestNothingIsLostOrDoubled: what came, by start and by Pushes that returned, is what went, by Pops and Takes that returned, and what is left.
func TestNothingIsLostOrDoubled(t *testing.T) { // P9.4
	cut := 0
	r := rand.New(rand.NewSource(6))
	for range 300 {
		scripts, start := someScripts(r, 1+r.Intn(8), 8), someStart(r, 5)
		next := 100 // each number once, or some of them twice
		for _, script := range scripts {
			for i := range script {
				next += r.Intn(2)
				script[i].Val = next
			}
		}
		p, _ := stack.Play(start, scripts, somePicks(r, len(scripts), 200))
		came, went := slices.Clone(start), slices.Clone(p.Left)
		for _, n := range p.Notes {
			switch {
			case !n.Return:
			case n.Op.Kind == stack.Push:
				came = append(came, n.Op.Val)
			case n.Op.Kind == stack.Pop && n.Got.Ok:
				went = append(went, n.Got.Val)
			case n.Op.Kind == stack.Take:
				went = append(went, n.Got.Vals...)
			}
		}
		slices.Sort(came)
		slices.Sort(went)
		if !slices.Equal(came, went) {
			t.Fatalf("Play(%v, %v, %v): came %v, went %v", start, scripts, p.Steps, came, went)
		}
		if slices.Contains(p.Ended, false) {
			cut++
		}
	}
	if cut < 100 {
		t.Errorf("%d games were cut: the test sees too little", cut)
	}
}

// TestReturnsComeWithTheLastAccess: whoever isn't within an operation stands at a Start, or has ended; so nothing is taken whose return isn't noted.
func TestReturnsComeWithTheLastAccess(t *testing.T) { // P9.4
	eachList(2, 9, func(picks []int) {
		scripts := workers(ops(pop, pop), ops(take, pop))
		p, _ := stack.Play([]int{1, 2, 3}, scripts, picks)
		took := 0
		for _, n := range p.Notes {
			took += len(n.Got.Vals)
			if n.Got.Ok && n.Op.Kind == stack.Pop {
				took++
			}
		}
		if took+len(p.Left) != 3 {
			t.Fatalf("Play(%v, %v): took %d, left %v", scripts, picks, took, p.Left)
		}
	})
}
