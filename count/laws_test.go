package count_test

import (
	"cmp"
	"math/rand"
	"slices"
	"testing"

	"larch/api"
	"larch/count"
)

// eachGame calls look with games of threads whose operations are all made by make, and with the games of all beginnings of their picks.
func eachGame(seed int64, held []int, make func(r *rand.Rand) count.Op, look func(cells []int, scripts [][]count.Op, picks []int, d count.Done)) {
	r := rand.New(rand.NewSource(seed))
	for range 100 {
		cells := slices.Clone(held)
		if r.Intn(3) == 0 && cells[0] != 0 { // 0 may be an open lock
			cells[0] = edges[r.Intn(len(edges))]
		}
		scripts := someScripts(r, 1+r.Intn(4), 4, 2)
		for _, script := range scripts {
			for i := range script {
				script[i] = make(r)
			}
		}
		picks := somePicks(r, len(scripts), 70)
		for n := range len(picks) + 1 {
			if d, e := count.Run(cells, scripts, picks[:n]); e == api.OK {
				look(cells, scripts, picks[:n], d)
			}
		}
	}
}

// added: what the operations that have ended added to the cell.
func added(scripts [][]count.Op, d count.Done, at int) int {
	sum := 0
	for thread, answers := range d.Answers {
		for i, a := range answers {
			switch op := scripts[thread][i]; {
			case a.To == -1 || op.At != at:
			case op.Kind == count.Ticket:
				sum++
			default:
				sum += op.A
			}
		}
	}
	return sum
}

func TestAllThatIsAddedIsThere(t *testing.T) { // P8.3
	games := 0
	eachGame(3, []int{5, -7}, func(r *rand.Rand) count.Op {
		return count.Op{Kind: []int{count.Inc, count.Plus, count.Ticket}[r.Intn(3)], At: r.Intn(2), A: edges[r.Intn(len(edges))]}
	}, func(cells []int, scripts [][]count.Op, picks []int, d count.Done) {
		games++
		for at, first := range cells {
			if d.Cells[at] != first+added(scripts, d, at) {
				t.Fatalf("Run(%v, %v, %v): cell %d holds %d", cells, scripts, picks, at, d.Cells[at])
			}
		}
	})
	if games < 500 {
		t.Errorf("%d games", games)
	}
}

func TestTicketsAreTheNextNumbers(t *testing.T) { // P8.3
	eachGame(4, []int{5, 3}, func(r *rand.Rand) count.Op {
		if r.Intn(4) == 0 {
			return count.Op{Kind: count.Inc, At: 1, A: 7}
		}
		return count.Op{Kind: count.Ticket, A: 9}
	}, func(cells []int, scripts [][]count.Op, picks []int, d count.Done) {
		var tickets []count.Ans
		for thread, answers := range d.Answers {
			for i, a := range answers {
				if a.To != -1 && scripts[thread][i].Kind == count.Ticket {
					tickets = append(tickets, a)
				}
			}
		}
		slices.SortFunc(tickets, func(a, b count.Ans) int { return cmp.Compare(a.To, b.To) })
		for i, a := range tickets {
			if a.Val != cells[0]+i+1 || !a.Ok {
				t.Fatalf("Run(%v, %v, %v): ticket %d is %v", cells, scripts, picks, i, a)
			}
		}
	})
}

func TestTopIsTheGreatest(t *testing.T) { // P8.4
	eachGame(5, []int{1, 0}, func(r *rand.Rand) count.Op {
		return count.Op{Kind: count.Top, At: r.Intn(2), A: edges[r.Intn(len(edges))]}
	}, func(cells []int, scripts [][]count.Op, picks []int, d count.Done) {
		for at, first := range cells {
			greatest := first
			for thread, answers := range d.Answers {
				for i, a := range answers {
					if scripts[thread][i].At == at && a.To != -1 {
						greatest = max(greatest, scripts[thread][i].A)
					}
				}
			}
			if d.Cells[at] < greatest {
				t.Fatalf("Run(%v, %v, %v): cell %d holds %d, below %d", cells, scripts, picks, at, d.Cells[at], greatest)
			}
		}
	})
}

func TestTakesAreAsManyAsItHoldsLess(t *testing.T) { // P8.4
	eachGame(6, []int{2, 4}, func(r *rand.Rand) count.Op {
		return count.Op{Kind: count.Take, At: r.Intn(2), A: 3}
	}, func(cells []int, scripts [][]count.Op, picks []int, d count.Done) {
		for at, first := range cells {
			took := 0
			for thread, answers := range d.Answers {
				for i, a := range answers {
					if a.Ok && scripts[thread][i].At == at {
						took++
					}
				}
			}
			if d.Cells[at] != first-took || d.Cells[at] < min(first, 0) {
				t.Fatalf("Run(%v, %v, %v): cell %d holds %d, and %d took", cells, scripts, picks, at, d.Cells[at], took)
			}
		}
	})
}

// TestAtMostOneHoldsALock: a thread that has loaded the counted cell, and not stored twice, is between its Cas and its last Store.
func TestAtMostOneHoldsALock(t *testing.T) { // P8.5
	busy := 0
	eachGame(7, []int{0, 40}, func(r *rand.Rand) count.Op {
		return count.Op{Kind: count.Locked, At: 0, A: 1}
	}, func(cells []int, scripts [][]count.Op, picks []int, d count.Done) {
		stored, within := 0, -1
		for thread := range scripts {
			loads, stores := 0, 0
			for _, s := range d.Steps {
				if s.Worker == thread && s.Kind == api.Load {
					loads++
				}
				if s.Worker == thread && s.Kind == api.Store {
					stores++
				}
			}
			stored += (stores + 1) / 2
			if loads*2 > stores {
				if within != -1 {
					t.Fatalf("Run(%v, %v, %v): threads %d and %d are within", cells, scripts, picks, within, thread)
				}
				within = thread
			}
		}
		if d.Cells[1] != 40+stored {
			t.Fatalf("Run(%v, %v, %v): counted %d, stored %d times", cells, scripts, picks, d.Cells[1], stored)
		}
		if within != -1 {
			busy++
			if who, e := count.Held(cells, scripts, picks, 0); who != within || e != api.OK {
				t.Fatalf("Held(%v, %v, %v, 0) = %d, %d, want %d", cells, scripts, picks, who, e, within)
			}
		}
	})
	if busy < 100 {
		t.Errorf("in %d games alone a lock is held", busy)
	}
}

func TestSumLiesBetween(t *testing.T) { // P8.6
	sums, moved := 0, 0
	eachGame(8, []int{0, 100, -3}, func(r *rand.Rand) count.Op {
		kind := []int{count.Inc, count.Plus, count.Ticket, count.Top, count.Sum, count.Sum}[r.Intn(6)]
		return count.Op{Kind: kind, At: r.Intn(3), A: r.Intn(200)}
	}, func(cells []int, scripts [][]count.Op, picks []int, d count.Done) {
		for thread, answers := range d.Answers {
			for i, a := range answers {
				if scripts[thread][i].Kind != count.Sum || a.To != len(picks)-1 {
					continue
				}
				ahead, behind := sumAt(cells, scripts, picks[:a.From+1]), sumAt(cells, scripts, picks)
				sums++
				if ahead != behind {
					moved++
				}
				if a.Val < ahead || a.Val > behind {
					t.Fatalf("Run(%v, %v, %v): a sum of %d, from %d to %d", cells, scripts, picks, a.Val, ahead, behind)
				}
			}
		}
	})
	if sums < 60 || moved < 20 {
		t.Errorf("%d sums, %d of them while the cells grew: the test sees too little", sums, moved)
	}
}

// sumAt: of the cells behind the picks.
func sumAt(cells []int, scripts [][]count.Op, picks []int) int {
	d, _ := count.Run(cells, scripts, picks)
	sum := 0
	for _, n := range d.Cells {
		sum += n
	}
	return sum
}
