package span_test

import (
	"slices"
	"testing"

	"larch/api"
	"larch/cell"
	"larch/span"
)

// addTimes: as many Adds of 1 as the operation says; what the number holds behind the last one.
func addTimes(n *cell.Num) func(thread int, g cell.Gate, op int) int {
	return func(_ int, g cell.Gate, op int) int {
		last := 0
		for range op {
			last = n.Add(g, 1)
		}
		return last
	}
}

func TestPlay(t *testing.T) {
	n := cell.NewNum(10)
	spans, steps := span.Play([][]int{{2, 0, 1}, nil, {1, 1}}, []int{0, 2, 7, 0, 1, 2, 0, 0, 2, 0}, addTimes(n))
	want := [][]span.Span[int]{
		{{Ans: 13, From: 0, To: 6}, {Ans: 0, From: 7, To: 7}, {From: 9, To: span.None}},
		nil,
		{{Ans: 12, From: 1, To: 5}, {From: 8, To: span.None}},
	}
	if !slices.EqualFunc(spans, want, func(a, b []span.Span[int]) bool { return slices.Equal(a, b) }) {
		t.Errorf("spans %v, want %v", spans, want)
	}
	if len(steps) != 10 || steps[2] != (api.Step{Worker: 7, Kind: -1}) || steps[5] != (api.Step{Worker: 2, Kind: api.Add}) {
		t.Errorf("steps %v", steps)
	}
}

func TestPlayThatIsRefused(t *testing.T) {
	for _, threads := range []int{0, api.MaxThreads + 1} {
		spans, steps := span.Play(slices.Repeat([][]int{{1}}, threads), []int{0, 0}, addTimes(new(cell.Num)))
		if len(spans) != threads || len(slices.Concat(spans...)) != 0 || steps != nil {
			t.Errorf("Play of %d scripts: %v, %v", threads, spans, steps)
		}
	}
}

func TestPlayerAlone(t *testing.T) {
	var p span.Player[string]
	var n cell.Num
	p.Do(func(g cell.Gate) string { n.Add(g, 1); n.Load(g); return "two" })
	early := p.Spans()
	p.Do(func(g cell.Gate) string { return "none" })
	p.Do(func(g cell.Gate) string { n.Add(g, 1); n.Add(nil, 1); return "one" })
	want := []span.Span[string]{{Ans: "two", From: 0, To: 2}, {Ans: "none", From: 3, To: 3}, {Ans: "one", From: 4, To: 5}}
	if !slices.Equal(p.Spans(), want) || !slices.Equal(early, want[:1]) {
		t.Errorf("spans %v, and early %v", p.Spans(), early)
	}
	p.Spans()[0].From = 99
	if !slices.Equal(p.Spans(), want) {
		t.Error("what Spans answers isn't new memory")
	}
}
