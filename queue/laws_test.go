package queue_test

import (
	"math/rand"
	"slices"
	"testing"

	"larch/api"
	"larch/queue"
	"larch/search"
)

func play(t *testing.T, vals []int, scripts [][]api.Op, picks []int) queue.Played {
	t.Helper()
	p, e := queue.Play(vals, scripts, picks)
	if e != api.OK {
		t.Fatalf("Play(%v, %v, %v): %d", vals, scripts, picks, e)
	}
	return p
}

// eachGame calls look with games by chance, of at most so many operations, many of them behind picks that end in the midst.
func eachGame(t *testing.T, seed int64, games, most int, look func(vals []int, scripts [][]api.Op, picks []int, p queue.Played)) {
	r := rand.New(rand.NewSource(seed))
	for range games {
		scripts := someScripts(r, 1+r.Intn(4), most/4)
		vals := someVals(r, 2)
		picks := somePicks(r, len(scripts), 12*most)
		look(vals, scripts, picks, play(t, vals, scripts, picks))
	}
}

func TestThereIsAnOrder(t *testing.T) { // P10.3
	pending := 0
	isRight := func(vals []int, scripts [][]api.Op, picks []int, p queue.Played) {
		if _, is, e := search.Find(search.Queue, search.State{Vals: vals}, p.History); !is || e != api.OK {
			t.Fatalf("Play(%v, %v, %v): no order: %v, %d", vals, scripts, picks, p.History, e)
		}
		if len(p.History)%2 == 1 {
			pending++
		}
	}
	eachGame(t, 4, 600, 8, isRight)
	eachList(2, 11, func(picks []int) {
		scripts := workers(ops(put(1), take), ops(take, put(2)))
		isRight([]int{9}, scripts, picks, play(t, []int{9}, scripts, picks))
	})
	eachList(3, 8, func(picks []int) {
		scripts := workers(ops(put(1)), ops(put(2)), ops(take))
		isRight(nil, scripts, picks, play(t, nil, scripts, picks))
	})
	if pending < 100 {
		t.Errorf("%d histories with pending operations: the test sees too little", pending)
	}
}

// sums: how often each number is there.
func sums(lists ...[]int) map[int]int {
	n := map[int]int{}
	for _, v := range slices.Concat(lists...) {
		n[v]++
	}
	return n
}

// isWithin: is each number of a as often in b at least?
func isWithin(a, b map[int]int) bool {
	for v, n := range a {
		if n > b[v] {
			return false
		}
	}
	return true
}

func TestNothingIsLostOrDoubled(t *testing.T) { // P10.4
	lagged, cut := 0, 0
	look := func(vals []int, scripts [][]api.Op, picks []int, p queue.Played) {
		if p.Lag != 0 && p.Lag != 1 {
			t.Fatalf("Play(%v, %v, %v): Lag %d", vals, scripts, picks, p.Lag)
		}
		var begun, done, took []int
		for _, e := range p.History {
			switch {
			case e.Op.Kind == 1 && !e.Return:
				begun = append(begun, e.Op.Val)
			case e.Op.Kind == 1:
				done = append(done, e.Op.Val)
			case e.Return && e.Ret.Ok:
				took = append(took, e.Ret.Val)
			}
		}
		there := sums(took, p.Items)
		if !isWithin(sums(vals, done), there) || !isWithin(there, sums(vals, begun)) {
			t.Fatalf("Play(%v, %v, %v): put %v, of these done %v; took %v, left %v", vals, scripts, picks, begun, done, took, p.Items)
		}
		lagged += p.Lag
		if slices.Contains(p.Ended, false) {
			cut++
		}
	}
	eachGame(t, 5, 600, 20, look)
	eachList(2, 11, func(picks []int) {
		scripts := workers(ops(put(1), take), ops(put(1), take))
		look(nil, scripts, picks, play(t, nil, scripts, picks))
	})
	if lagged < 50 || cut < 100 {
		t.Errorf("%d tails lagged, %d games were cut: the test sees too little", lagged, cut)
	}
}

// returns: how many of the worker's operations have returned.
func returns(p queue.Played, worker int) int {
	n := 0
	for _, e := range p.History {
		if e.Return && e.Thread == worker {
			n++
		}
	}
	return n
}

// solo: how many picks of its own the worker needs, behind the picks, till its operation returns; 0, if it has ended; more than 12 is told as 13.
func solo(t *testing.T, vals []int, scripts [][]api.Op, picks []int, worker int) int {
	t.Helper()
	before := play(t, vals, scripts, picks)
	if before.Ended[worker] {
		return 0
	}
	more := append(slices.Clone(picks), slices.Repeat([]int{worker}, 12)...)
	if returns(play(t, vals, scripts, more), worker) == returns(before, worker) {
		return 13
	}
	for n := 1; ; n++ {
		if returns(play(t, vals, scripts, more[:len(picks)+n]), worker) > returns(before, worker) {
			return n
		}
	}
}

// TestOneAloneComesToItsEnd: wherever all stand.
func TestOneAloneComesToItsEnd(t *testing.T) { // P10.5
	worst := 0
	look := func(vals []int, scripts [][]api.Op, picks []int) {
		for worker := range scripts {
			n := solo(t, vals, scripts, picks, worker)
			worst = max(worst, n)
			if n > 12 {
				t.Fatalf("Play(%v, %v, %v): worker %d alone isn't back within 12 picks", vals, scripts, picks, worker)
			}
		}
	}
	r := rand.New(rand.NewSource(6))
	for range 300 {
		scripts := someScripts(r, 1+r.Intn(5), 4)
		look(someVals(r, 2), scripts, somePicks(r, len(scripts), 60))
	}
	eachList(2, 9, func(picks []int) { look([]int{7}, workers(ops(take, take), ops(put(1), put(2))), picks) })
	if worst < 9 {
		t.Errorf("at worst %d picks: the test sees too little", worst)
	}
}

// TestTheWorstPlaceToStand: ahead of a Take's second access, with a head that is old and a tail that lags.
func TestTheWorstPlaceToStand(t *testing.T) { // P10.5
	scripts := workers(ops(take), ops(take), ops(put(5)))
	picks := []int{0, 0, 1, 1, 1, 1, 1, 2, 2, 2, 2}
	if n := solo(t, []int{1}, scripts, picks, 0); n != 11 {
		t.Errorf("it takes %d picks, want 11", n)
	}
	p := wantPlay(t, []int{1}, scripts, append(picks, slices.Repeat([]int{0}, 11)...))
	if last := p.History[len(p.History)-1]; !sameRet(last.Ret, api.Ret{Ok: true, Val: 5}) || last.Thread != 0 {
		t.Errorf("the history ends with %v", last)
	}
}
